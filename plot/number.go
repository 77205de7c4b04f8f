package plot

import (
	"quitrent/api"
	"quitrent/cents"
)

// farthest is how far a point's X and Y may be from 0. Floats are exact to 2^53: no product of two points is
// more than 2^41, nor are 1000 of them together more than 2^51.
const farthest = 1 << 20

// mostPoints is how many points a call may be of.
const mostPoints = 1000

// within tells whether a number may be a point's X or Y.
func within(n int64) bool { return cents.Clamp(n, -farthest, farthest) == n }

// mayBe tells whether a point may be.
func (p Point) mayBe() bool { return within(p.X) && within(p.Y) }

// number tells a point that may be as a complex number.
func (p Point) number() complex128 { return complex(float64(p.X), float64(p.Y)) }

// mirrored tells a number with the sign of what is times i turned.
func mirrored(n complex128) complex128 { return complex(real(n), -imag(n)) }

// numbersOf tells points as complex numbers, if there are not too many and all of them may be.
func numbersOf(l []Point) ([]complex128, api.Errno) {
	if len(l) > mostPoints {
		return nil, api.ErrFull
	}
	numbers := make([]complex128, len(l))
	for i, p := range l {
		if !p.mayBe() {
			return nil, api.ErrArg
		}
		numbers[i] = p.number()
	}
	return numbers, api.OK
}

// pointsOf tells complex numbers as points, if all of them may be.
func pointsOf(numbers []complex128) ([]Point, api.Errno) {
	l := make([]Point, len(numbers))
	for i, n := range numbers {
		l[i] = Point{int64(real(n)), int64(imag(n))}
		if !l[i].mayBe() {
			return nil, api.ErrOver
		}
	}
	return l, api.OK
}
