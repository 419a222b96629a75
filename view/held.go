package view

import (
	"sigil/api"
	"sigil/wire"
)

// held is what a field holds, or a value of the list or map that it holds. It is made of records, whose content was not looked at but for what the question needs.
type held interface {
	next(st api.Step) held // what stands at a step; nil: nothing
	check()                // reads it whole, for its first fault
	value() api.Value      // what it says, if it has none
}

// many is what holds many values.
type many interface {
	held
	spread() (int, func(i int) (api.Step, held)) // how many they are, and each of them with its step
}

// scalar is a number or a text.
type scalar struct {
	kind, num int
	text      []byte
	utf8      bool // whether the text must be UTF-8
}

// next: no step goes on from a number or a text.
func (s scalar) next(api.Step) held { return nil }

func (s scalar) check() {
	if !s.utf8 {
		return
	}
	if bad := wire.Utf8(string(s.text)); bad >= 0 {
		refuse(bad, api.ErrUtf8)
	}
}

func (s scalar) value() api.Value {
	return api.Value{Kind: s.kind, Num: s.num, Text: string(s.text)}
}

// zero says whether it is its type's zero.
func (s scalar) zero() bool { return s.num == 0 && len(s.text) == 0 }
