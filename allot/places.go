package allot

// arePlaces tells whether there is a place, and all rise, and are of so many.
func arePlaces(whose []int, many int) bool {
	ahead := -1
	for _, place := range whose {
		if place <= ahead || place >= many {
			return false
		}
		ahead = place
	}
	return len(whose) > 0
}

// ofOthers tells, by places, the Alone of each one that is none of some, and 0 of these.
func ofOthers(alone []int64, whose []int) []int64 {
	others := make(map[int]int64, len(alone))
	for place, n := range alone {
		others[place] = n
	}
	for _, place := range whose {
		delete(others, place)
	}
	amounts := make([]int64, len(alone))
	for place := range amounts {
		amounts[place] = others[place]
	}
	return amounts
}

// pick tells the Alones at places, in their order.
func pick(alone []int64, whose []int) []int64 {
	picked := make([]int64, len(whose))
	for i, place := range whose {
		picked[i] = alone[place]
	}
	return picked
}
