package loose_test

import (
	"encoding/binary"
	"slices"
	"strings"
	"unicode/utf8"

	"sigil/api"
	"sigil/bind"
	"sigil/encode"
	"sigil/wire"
)

// stop is the first fault of bytes. Of none all is zero.
type stop struct {
	at  int
	err api.Errno
}

// said is what a second reading of P13 and P1102 to P1107 says of bytes.
type said struct {
	tree  api.Value
	skips []api.Skip // with ErrSize too
	bad   stop
}

// second is that reading: it first looks for faults, by places over all bytes; then it takes the records off and makes the tree, where messages that are merged are read from their bytes, one behind the other.
type second struct {
	s     *bind.Schema
	b     []byte
	skips []api.Skip
}

// secondly reads bytes.
func secondly(s *bind.Schema, name string, b []byte) said {
	r := &second{s: s, b: b}
	if bad := r.part(r.inMessage(name), 0, len(b), 1, nil); bad.err != api.OK {
		return said{bad: bad}
	}
	v := meant(s, name, string(b))
	if _, e := encode.New(s).Size(name, v); e == api.ErrSize {
		return said{skips: r.skips, bad: stop{0, api.ErrSize}}
	}
	return said{tree: v, skips: r.skips}
}

// fields tells the field of a number, if there is one.
type fields func(number int) (api.Field, bool)

func (r *second) inMessage(name string) fields { return ofMessage(r.s, name) }

func ofMessage(s *bind.Schema, name string) fields {
	return func(number int) (api.Field, bool) {
		f, e := s.Field(name, number)
		return f, e == api.OK
	}
}

// ofPair are the two fields of a map's pair.
func ofPair(f api.Field) fields {
	return func(number int) (api.Field, bool) {
		switch number {
		case 1:
			return api.Field{Number: 1, Card: api.COptional, Type: f.Key}, true
		case 2:
			return api.Field{Number: 2, Card: api.COptional, Type: f.Type, Of: f.Of}, true
		}
		return api.Field{}, false
	}
}

// packed says whether records of a field may be blocks.
func packed(f api.Field) bool { return f.Card == api.CRepeated && kindOf(f.Type) != 2 }

// goes says whether a wire kind goes with a field.
func goes(f api.Field, kind int) bool {
	if f.Card == api.CMap {
		return kind == 2
	}
	return kind == kindOf(f.Type) || kind == 2 && packed(f)
}

// part looks for faults in the records from p to z.
func (r *second) part(of fields, p, z, level int, trail []int) stop {
	for p < z {
		number, kind, q, bad := r.tag(p, z)
		if bad.err != api.OK {
			return bad
		}
		if kind == 4 {
			return stop{p, api.ErrGroup}
		}
		f, ok := of(number)
		if ok && goes(f, kind) {
			p, bad = r.known(f, kind, p, q, z, level, trail)
		} else {
			r.skips = append(r.skips, skip(p, number, kind, slices.Clone(trail)...))
			p, bad = r.over(number, kind, p, q, z, level)
		}
		if bad.err != api.OK {
			return bad
		}
	}
	return stop{}
}

// tag reads a tag at p.
func (r *second) tag(p, z int) (int, int, int, stop) {
	u, q, bad := r.varint(p, z)
	switch {
	case bad.err != api.OK:
		return 0, 0, 0, bad
	case u>>3 == 0 || u>>3 >= 1<<29:
		return 0, 0, 0, stop{p, api.ErrNumber}
	case u&7 > 5:
		return 0, 0, 0, stop{p, api.ErrKind}
	}
	return int(u >> 3), int(u & 7), q, stop{}
}

// varint reads a varint at p; it tells the place behind it.
func (r *second) varint(p, z int) (uint64, int, stop) {
	u, n := binary.Uvarint(r.b[p:z])
	switch {
	case n < 0:
		return 0, 0, stop{p, api.ErrOver}
	case n == 0 && z-p >= 10:
		return 0, 0, stop{p, api.ErrOver} // ten bytes without an end
	case n == 0:
		return 0, 0, stop{p, api.ErrEnds}
	}
	return u, p + n, stop{}
}

// length reads a length at p; it tells from where to where it reaches.
func (r *second) length(p, z int) (int, int, stop) {
	u, q, bad := r.varint(p, z)
	if bad.err == api.OK && u > uint64(z-q) {
		bad = stop{p, api.ErrEnds}
	}
	return q, q + int(u), bad
}

// bare reads what is behind a tag of a kind that is no group.
func (r *second) bare(kind, p, z int) (int, stop) {
	switch kind {
	case 0:
		_, end, bad := r.varint(p, z)
		return end, bad
	case 2:
		_, end, bad := r.length(p, z)
		return end, bad
	}
	end := p + map[int]int{1: 8, 5: 4}[kind]
	if end > z {
		return 0, stop{p, api.ErrEnds}
	}
	return end, stop{}
}

// over passes over a record whose tag begins at p.
func (r *second) over(number, kind, p, q, z, level int) (int, stop) {
	if kind != 3 {
		return r.bare(kind, q, z)
	}
	if level == 64 {
		return 0, stop{p, api.ErrDepth}
	}
	for q < z {
		n, k, from, bad := r.tag(q, z)
		switch {
		case bad.err != api.OK:
			return 0, bad
		case k == 4 && n != number:
			return 0, stop{q, api.ErrGroup}
		case k == 4:
			return from, stop{}
		}
		if q, bad = r.over(n, k, q, from, z, level+1); bad.err != api.OK {
			return 0, bad
		}
	}
	return 0, stop{z, api.ErrEnds}
}

// known looks for faults in a record of a field.
func (r *second) known(f api.Field, kind, p, q, z, level int, trail []int) (int, stop) {
	if f.Type == api.TMessage && level == 64 {
		return 0, stop{p, api.ErrDepth}
	}
	end, bad := r.bare(kind, q, z)
	if bad.err != api.OK || kind != 2 {
		return end, bad
	}
	from, _, _ := r.length(q, z)
	in := append(slices.Clone(trail), f.Number)
	switch {
	case f.Card == api.CMap:
		bad = r.part(ofPair(f), from, end, level, in)
	case packed(f):
		for from < end && bad.err == api.OK {
			from, bad = r.bare(kindOf(f.Type), from, end)
		}
	case f.Type == api.TMessage:
		bad = r.part(r.inMessage(f.Of), from, end, level+1, in)
	case f.Type == api.TString:
		for i, c := range string(r.b[from:end]) {
			if c == utf8.RuneError && !strings.HasPrefix(string(r.b[from+i:end]), "\uFFFD") {
				return 0, stop{from + i, api.ErrUtf8}
			}
		}
	}
	return end, bad
}

// meant is the message that bytes without a fault mean.
func meant(s *bind.Schema, name, b string) api.Value {
	info, _ := s.Message(name)
	of := map[int][]api.Record{} // by number the records that count
	for _, record := range taken(b) {
		f, ok := ofMessage(s, name)(record.Number)
		if !ok || !goes(f, record.Kind) {
			continue
		}
		for _, g := range info.Fields {
			if f.Oneof > 0 && g.Oneof == f.Oneof && g.Number != f.Number {
				delete(of, g.Number)
			}
		}
		of[f.Number] = append(of[f.Number], record)
	}
	v := msg()
	for _, f := range info.Fields {
		l := of[f.Number]
		if len(l) == 0 {
			continue
		}
		in := valueOf(s, f, l)
		implicit := f.Card == api.CSingle && f.Oneof == 0
		if implicit && (same(in, num(0)) || same(in, text(""))) || same(in, list()) {
			continue
		}
		v.Fields = append(v.Fields, at(f.Number, in))
	}
	return v
}

// taken are the records of bytes that have no fault.
func taken(b string) []api.Record {
	l, place, e := wire.Split([]byte(b), false)
	if e != api.OK {
		panic(stop{place, e})
	}
	return l
}

// valueOf is what the records of a field mean, one behind the other.
func valueOf(s *bind.Schema, f api.Field, l []api.Record) api.Value {
	last := l[len(l)-1]
	switch {
	case f.Card == api.CMap:
		return mapOf(s, f, l)
	case f.Card == api.CRepeated:
		v := list()
		single := f
		single.Card = api.COptional
		for _, record := range l {
			if packed(f) && record.Kind == 2 {
				v.List = append(v.List, numbersOf(f.Type, record.Text)...)
				continue
			}
			v.List = append(v.List, valueOf(s, single, []api.Record{record}))
		}
		return v
	case f.Type == api.TMessage:
		all := ""
		for _, record := range l {
			all += record.Text
		}
		return meant(s, f.Of, all)
	case kindOf(f.Type) == 2:
		return text(last.Text)
	}
	return num(numberOf(f.Type, uint64(last.Num)))
}

// numbersOf are the numbers of a block.
func numbersOf(typ int, b string) []api.Value {
	var l []api.Value
	for len(b) > 0 {
		u, n := uint64(0), 8
		switch kindOf(typ) {
		case 0:
			u, n = binary.Uvarint([]byte(b))
		case 1:
			u = binary.LittleEndian.Uint64([]byte(b))
		case 5:
			u, n = uint64(binary.LittleEndian.Uint32([]byte(b))), 4
		}
		l, b = append(l, num(numberOf(typ, u))), b[n:]
	}
	return l
}

// numberOf is the number that bits mean, by reckoning.
func numberOf(typ int, u uint64) int {
	half := func(u uint64) int {
		if u%2 == 1 {
			return -1 - int(u/2)
		}
		return int(u / 2)
	}
	const all = 1 << 32
	switch typ {
	case api.TInt32, api.TEnum, api.TSfixed32:
		if n := int(u % all); n < all/2 {
			return n
		}
		return int(u%all) - all
	case api.TUint32:
		return int(u % all)
	case api.TSint32:
		return half(u % all)
	case api.TSint64:
		return half(u)
	case api.TBool:
		return int(min(u, 1))
	}
	return int(u)
}

// mapOf is the map that records mean.
func mapOf(s *bind.Schema, f api.Field, l []api.Record) api.Value {
	v := dict()
	for _, record := range l {
		p := pairOf(s, f, record.Text)
		v.List = slices.DeleteFunc(v.List, func(old api.Value) bool { return same(old.List[0], p.List[0]) })
		v.List = append(v.List, p)
	}
	slices.SortFunc(v.List, func(a, b api.Value) int {
		if rises(f.Key, a.List[0], b.List[0]) {
			return -1
		}
		return 1
	})
	return v
}

// pairOf is the pair that the content of a record means.
func pairOf(s *bind.Schema, f api.Field, b string) api.Value {
	p := pair()
	for number := 1; number <= 2; number++ {
		in, _ := ofPair(f)(number)
		l := slices.DeleteFunc(taken(b), func(r api.Record) bool { return r.Number != number || !goes(in, r.Kind) })
		switch {
		case len(l) > 0:
			p.List = append(p.List, valueOf(s, in, l))
		case in.Type == api.TMessage:
			p.List = append(p.List, msg())
		case kindOf(in.Type) == 2:
			p.List = append(p.List, text(""))
		default:
			p.List = append(p.List, num(0))
		}
	}
	return p
}

// rises says whether a key is above another.
func rises(typ int, a, b api.Value) bool {
	switch typ {
	case api.TString:
		return a.Text < b.Text
	case api.TUint64, api.TFixed64:
		return uint64(a.Num) < uint64(b.Num)
	}
	return a.Num < b.Num
}
