package duty

import (
	"quitrent/api"
	"quitrent/book"
)

// bond is what makes lines belong together: they do just if their bonds are the same.
type bond struct {
	tag int
	of  int // a bundle's Group, a series' item, a distinct line's own place
}

// bondOf tells the bond of the line at a place.
func bondOf(b *book.Book, x api.Line, place int) bond {
	item, _ := b.Item(x.Item)
	switch item.Tag {
	case api.Bundle:
		return bond{item.Tag, item.Group}
	case api.Series:
		return bond{item.Tag, x.Item}
	}
	return bond{item.Tag, place}
}

// together tells the places of lines that belong together, in the order of the first ones.
func together(b *book.Book, lines []api.Line) [][]int {
	var bonds []bond
	var rows [][]int
	for place, x := range lines {
		own := bondOf(b, x, place)
		at := indexOf(bonds, own)
		if at == len(bonds) {
			bonds = append(bonds, own)
			rows = append(rows, nil)
		}
		rows[at] = append(rows[at], place)
	}
	return rows
}

// indexOf tells the place of a bond among bonds, or how many there are, where it is none of them.
func indexOf(bonds []bond, own bond) int {
	for at, other := range bonds {
		if other == own {
			return at
		}
	}
	return len(bonds)
}
