package codec

import (
	"strings"

	"quitrent/api"
)

// Limits of a list.
const (
	mostTexts = 1000
	mostBytes = 1 << 20 // of all texts together
)

// List tells texts as one.
func List(l []string) (string, api.Errno) {
	if len(l) > mostTexts || tooLong(l) {
		return "", api.ErrFull
	}
	var b strings.Builder
	b.WriteString(laid(len(l)))
	for _, text := range l {
		b.WriteString(laid(len(text)))
		b.WriteString(text)
	}
	return b.String(), api.OK
}

// Parts tells the texts of one.
func Parts(s string) ([]string, api.Errno) {
	many, at, errno := Take(s)
	if errno != api.OK || many < 0 || many > mostTexts {
		return nil, api.ErrForm
	}
	var l []string
	left := s[at:]
	for range many {
		text, bytes, errno := part(left)
		if errno != api.OK {
			return nil, errno
		}
		l = append(l, text)
		left = left[bytes:]
	}
	if left != "" || tooLong(l) {
		return nil, api.ErrForm
	}
	return cloned(l), api.OK
}

// part tells the text that bytes begin with, behind how many bytes it has, and how many bytes that is in all.
func part(s string) (string, int, api.Errno) {
	long, at, errno := Take(s)
	if errno != api.OK || long < 0 || long > int64(len(s)-at) {
		return "", 0, api.ErrForm
	}
	end := at + int(long)
	return s[at:end], end, api.OK
}

// tooLong tells whether texts have too many bytes together.
func tooLong(l []string) bool {
	room := mostBytes
	for _, text := range l {
		if len(text) > room {
			return true
		}
		room -= len(text)
	}
	return false
}

// cloned tells texts in memory of their own, so that a short one doesn't keep all the bytes it was cut from.
func cloned(l []string) []string {
	for i, text := range l {
		l[i] = strings.Clone(text)
	}
	return l
}
