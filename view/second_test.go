package view_test

import (
	"encoding/binary"
	"slices"
	"unicode/utf8"

	"sigil/api"
	"sigil/bind"
	"sigil/loose"
)

// second is a second reading of the chapter. What is read whole it lets package loose read; so it knows a field by which each message can be laid into the top one's type.
type second struct {
	s      *bind.Schema
	top    string
	layers map[string]int
}

// ofSmall and ofWide are the readings of the two schemas.
func ofSmall() second { return second{smallSchema(), "p.M", map[string]int{"p.M": 7}} }

func ofWide() second {
	return second{wideSchema(), "w.W", map[string]int{"w.W": api.TMessage, "w.V": ofV, "w.U": ofU}}
}

// part is a record of a field, or a value of a block.
type part struct {
	number, kind int
	bits         uint64
	text         []byte
}

// thing is what stands at a path: what a field of a message, so deep, holds by its records. A value of a list or a map has the field as a single one; a list has a record for each value.
type thing struct {
	field api.Field
	in    string // the type of the message
	depth int
	parts []part
}

// whole is what stands at the top: a message of one piece, which no message holds.
func whole(name string, b []byte) thing {
	return thing{field: api.Field{Card: api.CSingle, Type: api.TMessage, Of: name}, parts: []part{{text: b}}}
}

// isMany and isMessage say by the type what stands there.
func (x thing) isMany() bool { return x.field.Card == api.CRepeated || x.field.Card == api.CMap }

func (x thing) isMessage() bool { return !x.isMany() && x.field.Type == api.TMessage }

// fields tells the field of a number, if there is one.
type fields func(number int) (api.Field, bool)

func ofMessage(s *bind.Schema, name string) fields {
	return func(number int) (api.Field, bool) {
		f, e := s.Field(name, number)
		return f, e == api.OK
	}
}

// ofPair are the two fields of a map's pair.
func ofPair(f api.Field) fields {
	return func(number int) (api.Field, bool) {
		switch number {
		case 1:
			return api.Field{Number: 1, Card: api.COptional, Type: f.Key}, true
		case 2:
			return api.Field{Number: 2, Card: api.COptional, Type: f.Type, Of: f.Of}, true
		}
		return api.Field{}, false
	}
}

// packed says whether records of a field may be blocks.
func packed(f api.Field) bool { return f.Card == api.CRepeated && kindOf(f.Type) != 2 }

// goes says whether a wire kind goes with a field.
func goes(f api.Field, kind int) bool {
	if f.Card == api.CMap {
		return kind == 2
	}
	return kind == kindOf(f.Type) || kind == 2 && packed(f)
}

// split takes the records of fields off a piece of a message so deep; or it tells the first fault and its place.
func split(b []byte, depth int, of fields) ([]part, int, api.Errno) {
	var l []part
	var groups []int // the numbers of those that are open
	for p := 0; p < len(b); {
		u, n := binary.Uvarint(b[p:])
		number, kind := int(u>>3), int(u&7)
		switch last := len(groups) - 1; {
		case n <= 0:
			return nil, p, unread(b[p:], n)
		case number == 0 || number >= 1<<29:
			return nil, p, api.ErrNumber
		case kind > 5:
			return nil, p, api.ErrKind
		case kind == 4 && (last < 0 || groups[last] != number):
			return nil, p, api.ErrGroup
		case kind == 4:
			groups, p = groups[:last], p+n
			continue
		case kind == 3 && depth+len(groups) >= 64:
			return nil, p, api.ErrDepth
		case kind == 3:
			groups, p = append(groups, number), p+n
			continue
		}
		f, ok := of(number)
		known := ok && len(groups) == 0 && goes(f, kind)
		if known && f.Type == api.TMessage && depth == 64 {
			return nil, p, api.ErrDepth
		}
		in, end, e := bare(b, p+n, kind)
		if e != api.OK {
			return nil, p + n, e
		}
		if known {
			in.number = number
			l = append(l, in)
		}
		p = end
	}
	if len(groups) > 0 {
		return nil, len(b), api.ErrEnds
	}
	return l, 0, api.OK
}

// unread is why the library reads no varint: the bytes run out, or there are ten of them without an end, or it has more than 64 bits.
func unread(b []byte, n int) api.Errno {
	if n == 0 && len(b) < 10 {
		return api.ErrEnds
	}
	return api.ErrOver
}

// bare reads what is behind a tag, or stands in a block; it tells the place behind it.
func bare(b []byte, p, kind int) (part, int, api.Errno) {
	left := b[p:]
	if size := map[int]int{1: 8, 5: 4}[kind]; size > 0 {
		if len(left) < size {
			return part{}, 0, api.ErrEnds
		}
		eight := slices.Concat(left[:size], make([]byte, 8))
		return part{kind: kind, bits: binary.LittleEndian.Uint64(eight)}, p + size, api.OK
	}
	u, n := binary.Uvarint(left)
	switch {
	case n <= 0:
		return part{}, 0, unread(left, n)
	case kind == 0:
		return part{kind: kind, bits: u}, p + n, api.OK
	case u > uint64(len(left)-n):
		return part{}, 0, api.ErrEnds
	}
	return part{kind: kind, text: left[n : n+int(u)]}, p + n + int(u), api.OK
}

// numberOf is the number that bits mean, by reckoning.
func numberOf(typ int, u uint64) int {
	half := func(u uint64) int {
		if u%2 == 1 {
			return -1 - int(u/2)
		}
		return int(u / 2)
	}
	const all = 1 << 32
	switch typ {
	case api.TInt32, api.TEnum, api.TSfixed32:
		if n := int(u % all); n < all/2 {
			return n
		}
		return int(u%all) - all
	case api.TUint32:
		return int(u % all)
	case api.TSint32:
		return half(u % all)
	case api.TSint64:
		return half(u)
	case api.TBool:
		return int(min(u, 1))
	}
	return int(u)
}

// last is what the last of some records of a value says, which is not looked at more closely, or the zero.
func last(typ int, l []part) api.Value {
	if len(l) == 0 {
		return zeroOf(typ)
	}
	p := l[len(l)-1]
	if kindOf(typ) == 2 {
		return text(string(p.text))
	}
	return num(numberOf(typ, p.bits))
}

// step goes on from a thing; what is not there then has no records.
func (q second) step(x thing, st api.Step) (thing, bool, api.Errno) {
	switch st.Kind {
	case api.SField:
		return q.field(x, st.Number)
	case api.SIndex:
		out := x.single()
		if st.Number >= len(x.parts) {
			out.parts = nil
			return out, false, api.OK
		}
		out.parts = x.parts[st.Number : st.Number+1]
		return out, true, api.OK
	}
	return q.key(x, st.Key)
}

// single is a thing of the same field as a single one.
func (x thing) single() thing {
	x.field.Card = api.COptional
	return x
}

// field goes on to a field of a message.
func (q second) field(x thing, number int) (thing, bool, api.Errno) {
	f, _ := q.s.Field(x.field.Of, number)
	out := thing{field: f, in: x.field.Of, depth: x.depth + 1}
	for _, piece := range x.parts {
		l, _, e := split(piece.text, x.depth+1, ofMessage(q.s, x.field.Of))
		if e != api.OK {
			return out, false, e
		}
		for _, p := range l {
			g, _ := q.s.Field(x.field.Of, p.number)
			switch {
			case g.Number == number:
				out.parts = append(out.parts, p)
			case f.Oneof > 0 && g.Oneof == f.Oneof:
				out.parts = nil
			}
		}
	}
	if packed(f) {
		if e := out.unpack(); e != api.OK {
			return out, false, e
		}
	}
	implicit := f.Card == api.CSingle && f.Oneof == 0 && f.Type != api.TMessage
	if implicit && same(last(f.Type, out.parts), zeroOf(f.Type)) {
		out.parts = nil
	}
	return out, len(out.parts) > 0, api.OK
}

// unpack takes the blocks of a list of numbers to pieces.
func (x *thing) unpack() api.Errno {
	var all []part
	for _, p := range x.parts {
		if p.kind != 2 {
			all = append(all, p)
			continue
		}
		for at := 0; at < len(p.text); {
			in, end, e := bare(p.text, at, kindOf(x.field.Type))
			if e != api.OK {
				return e
			}
			all, at = append(all, in), end
		}
	}
	x.parts = all
	return api.OK
}

// pairOf is a pair of a map: its key, and the records of its value.
type pairOf struct {
	key   api.Value
	value []part
}

// pairs looks into all pairs of a map, and tells the last one of each key, in no order.
func (q second) pairs(x thing) ([]pairOf, api.Errno) {
	var l []pairOf
	for _, p := range x.parts {
		in, _, e := split(p.text, x.depth, ofPair(x.field))
		if e != api.OK {
			return nil, e
		}
		var both [3][]part
		for _, p := range in {
			both[p.number] = append(both[p.number], p)
		}
		key := last(x.field.Key, both[1])
		if !utf8.ValidString(key.Text) {
			return nil, api.ErrUtf8
		}
		l = slices.DeleteFunc(l, func(old pairOf) bool { return same(old.key, key) })
		l = append(l, pairOf{key, both[2]})
	}
	return l, api.OK
}

// key goes on to the value of a key.
func (q second) key(x thing, key api.Value) (thing, bool, api.Errno) {
	l, e := q.pairs(x)
	out := x.single()
	out.parts = nil
	if e != api.OK {
		return out, false, e
	}
	for _, p := range l {
		if same(p.key, key) {
			out.parts = p.value
			return out, true, api.OK
		}
	}
	return out, false, api.OK
}

// read is what a thing is that is read whole, or the first fault.
func (q second) read(x thing) (api.Value, api.Errno) {
	switch {
	case x.field.Card == api.CMap:
		return q.readMap(x)
	case x.field.Card == api.CRepeated:
		l := list()
		for _, p := range x.parts {
			one := x.single()
			one.parts = []part{p}
			v, e := q.read(one)
			if e != api.OK {
				return api.Value{}, e
			}
			l.List = append(l.List, v)
		}
		return l, api.OK
	case x.field.Type == api.TMessage:
		var all []byte
		for _, p := range x.parts {
			if e := q.loosely(x.field.Of, p.text, x.depth+1); e != api.OK {
				return api.Value{}, e
			}
			all = append(all, p.text...)
		}
		v, _, e := loose.Decode(q.s, x.field.Of, all)
		return v, e
	}
	v := last(x.field.Type, x.parts)
	if x.field.Type == api.TString && !utf8.ValidString(v.Text) {
		return api.Value{}, api.ErrUtf8
	}
	return v, api.OK
}

// readMap reads all records of a map in a message that has no others.
func (q second) readMap(x thing) (api.Value, api.Errno) {
	var all []byte
	for _, p := range x.parts {
		all = append(all, record(x.field.Number, p.text)...)
	}
	if e := q.loosely(x.in, all, x.depth); e != api.OK {
		return api.Value{}, e
	}
	v, _, e := loose.Decode(q.s, x.in, all)
	if e != api.OK {
		return api.Value{}, e
	}
	return v.Fields[0].Value, api.OK
}

// loosely tells the first fault of a piece of a message of a type, so deep: it is laid into messages of the top's type.
func (q second) loosely(name string, b []byte, depth int) api.Errno {
	top := name
	if depth > 1 {
		top, b = q.top, record(q.layers[name], b)
		for range depth - 2 {
			b = record(q.layers[top], b)
		}
	}
	_, _, e := loose.Skipped(q.s, top, b)
	return e
}

// wanted is what all questions answer, as asked takes it.
type wanted struct{ has, got, size, content any }

// says tells what the questions answer at the end of steps into a message.
func (q second) says(name string, b []byte, steps []api.Step) wanted {
	x, there, e := whole(name, b), true, api.OK
	for _, st := range steps {
		var went api.Errno
		if x, there, went = q.onward(x, there && e == api.OK, st); e == api.OK {
			e = went
		}
	}
	w := wanted{size: noMany, content: noMessage}
	if e != api.OK {
		w.has, w.got = e, e
		if x.isMany() {
			w.size = e
		}
		if x.isMessage() {
			w.content = e
		}
		return w
	}
	w.has = there
	if there {
		w.got = orError(q.read(x))
	}
	if x.isMany() {
		w.size = orError(q.size(x))
	}
	if x.isMessage() {
		w.content = nil
	}
	if x.isMessage() && there {
		var all []byte
		for _, p := range x.parts {
			all = append(all, p.text...)
		}
		w.content = string(all)
	}
	return w
}

// onward goes on, by the type alone from what is not there.
func (q second) onward(x thing, there bool, st api.Step) (thing, bool, api.Errno) {
	if there {
		return q.step(x, st)
	}
	if st.Kind != api.SField {
		return x.single(), false, api.OK
	}
	f, _ := q.s.Field(x.field.Of, st.Number)
	return thing{field: f, in: x.field.Of, depth: x.depth + 1}, false, api.OK
}

// size is how many values a list has, or unlike keys a map.
func (q second) size(x thing) (int, api.Errno) {
	if x.field.Card == api.CRepeated {
		return len(x.parts), api.OK
	}
	l, e := q.pairs(x)
	return len(l), e
}

// orError is a thing, or the error.
func orError[T any](v T, e api.Errno) any {
	if e != api.OK {
		return e
	}
	return v
}
