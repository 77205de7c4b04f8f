package keep

import (
	"slices"

	"quitrent/api"
	"quitrent/codec"
)

// comeBack does again what is kept. What is kept wrongly is given up by a panic, wherever it is come upon.
func (k *Keep) comeBack() (errno api.Errno) {
	defer func() {
		if recover() != nil {
			errno = api.ErrSum
		}
	}()
	k.again(parts(k.journal.Text()), k.journal.Records())
	return api.OK
}

// parts tells the commands' bytes of a text.
func parts(text string) []string {
	// A new journal's text has no bytes, and is no list.
	if text == "" {
		return nil
	}
	l, errno := codec.Parts(text)
	if errno != api.OK {
		panic(errno)
	}
	return l
}

// again does commands again: those of the text were done, so none of them may be refused; those of the records may be, as they were.
func (k *Keep) again(text, records []string) {
commands:
	for at, b := range slices.Concat(text, records) {
		c, errno := codec.Read(b)
		switch {
		case errno != api.OK: // it is no command
		case k.do(b, c).E == api.OK, at >= len(text):
			continue commands
		}
		panic(api.ErrSum)
	}
}
