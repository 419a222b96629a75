package json

import (
	"strings"

	"sigil/api"
)

// writer writes a text.
type writer struct {
	strings.Builder
}

// put writes a piece, and refuses a text that it would make too long.
func (w *writer) put(piece string) {
	if w.Len()+len(piece) > api.MaxJson {
		refuse(0, api.ErrSize)
	}
	w.WriteString(piece)
}

// row writes an object or an array: its signs, and between them so many things with commas, each by a call.
func (w *writer) row(from, to string, count int, each func(i int)) {
	w.put(from)
	for i := range count {
		if i > 0 {
			w.put(",")
		}
		each(i)
	}
	w.put(to)
}
