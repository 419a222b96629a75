package encode

import (
	"math"
	"slices"

	"sigil/api"
	"sigil/wire"
)

// writer writes something behind what is written already.
type writer[T any] func(out []byte, v T) []byte

// form is how the values of a type are written: the wire kind, and what is written behind a tag.
type form struct {
	kind  int
	write writer[*api.Value]
}

// forms is the table of the forms, by type; that of TMessage is of the message type of that name.
func (e *Encoder) forms(of string) [api.TMessage + 1]form {
	varint := form{api.WVarint, func(out []byte, v *api.Value) []byte { return append(out, wire.Varint(v.Num)...) }}
	zigzag := form{api.WVarint, func(out []byte, v *api.Value) []byte { return append(out, wire.Varint(wire.Zig(v.Num))...) }}
	fixed32 := form{api.WFixed32, fixed(4, math.MaxUint32)}
	fixed64 := form{api.WFixed64, fixed(8, -1)}
	text := form{api.WText, measured(func(out []byte, v *api.Value) []byte { return append(out, v.Text...) })}
	message := form{api.WText, measured(func(out []byte, v *api.Value) []byte { return e.plan(of).message(out, v) })}
	return [...]form{
		api.TDouble:   fixed64,
		api.TFloat:    fixed32,
		api.TInt32:    varint,
		api.TInt64:    varint,
		api.TUint32:   varint,
		api.TUint64:   varint,
		api.TSint32:   zigzag,
		api.TSint64:   zigzag,
		api.TFixed32:  fixed32,
		api.TFixed64:  fixed64,
		api.TSfixed32: fixed32,
		api.TSfixed64: fixed64,
		api.TBool:     varint,
		api.TString:   text,
		api.TBytes:    text,
		api.TEnum:     varint,
		api.TMessage:  message,
	}
}

// fixed writes so many bytes of the bits of a number that are asked for: wire.Fixed takes no negative number as four bytes.
func fixed(size, bits int) writer[*api.Value] {
	return func(out []byte, v *api.Value) []byte {
		b, _ := wire.Fixed(v.Num&bits, size)
		return append(out, b...)
	}
}

// record writes a value of the form as a record.
func (f form) record(number int) writer[*api.Value] { return record(number, f.kind, f.write) }

// record writes a tag ahead of what is written.
func record[T any](number, kind int, write writer[T]) writer[T] {
	tag, _ := wire.Tag(number, kind)
	return func(out []byte, v T) []byte { return write(append(out, tag...), v) }
}

// measured writes its length ahead of what is written. It is put in when the rest stands there: to tell it ahead of that, each message would be gone through again for every message around it.
func measured[T any](write writer[T]) writer[T] {
	return func(out []byte, v T) []byte {
		from := len(out)
		out = write(out, v)
		return slices.Insert(out, from, wire.Varint(len(out)-from)...)
	}
}

// pair is a map's pair, taken apart.
type pair struct{ key, value *api.Value }

// both writes a pair: its key, then its value.
func both(key, value writer[*api.Value]) writer[pair] {
	return func(out []byte, p pair) []byte { return value(key(out, p.key), p.value) }
}

// apart takes a pair apart.
func apart(v *api.Value) pair { return pair{&v.List[0], &v.List[1]} }

// itself takes a list's value as it is.
func itself(v *api.Value) *api.Value { return v }

// each writes what hangs on a list or a map, one behind the other: each part as what it is taken.
func each[T any](take func(*api.Value) T, write writer[T]) writer[*api.Value] {
	return func(out []byte, v *api.Value) []byte {
		for i := range v.List {
			out = write(out, take(&v.List[i]))
		}
		return out
	}
}
