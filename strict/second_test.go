package strict_test

import (
	"encoding/binary"
	"math"
	"unicode/utf8"

	"sigil/api"
	"sigil/bind"
)

// stop is the first fault of bytes, and where what is at fault ends. Of none all is zero.
type stop struct {
	at, end int
	err     api.Errno
}

// second is a second reading of P1002 to P1006: by places, over all bytes.
type second struct {
	s *bind.Schema
	b []byte
}

// secondly tells what a second reading says of bytes: the tree, or the first fault.
func secondly(s *bind.Schema, name string, b []byte) (api.Value, stop) {
	v, bad := second{s, b}.message(name, 0, len(b), 1)
	if bad.err != api.OK {
		return api.Value{}, bad
	}
	return v, bad
}

// varint tells the bits of the varint at q, and the place behind it.
func (r second) varint(q, z int) (uint64, int, stop) {
	bits := uint64(0)
	for i := 0; ; i++ {
		switch {
		case q+i == z:
			return 0, 0, stop{q, z, api.ErrEnds}
		case i == 9 && r.b[q+i] > 1:
			return 0, 0, stop{q, q + 10, api.ErrOver}
		case i > 0 && r.b[q+i] == 0:
			return 0, 0, stop{q, q + i + 1, api.ErrLonger}
		}
		bits += uint64(r.b[q+i]%128) << (7 * i)
		if r.b[q+i] < 128 {
			return bits, q + i + 1, stop{}
		}
	}
}

// length tells from where to where the bytes lie that the length at q spans.
func (r second) length(q, z int) (int, int, stop) {
	n, from, bad := r.varint(q, z)
	if bad.err == api.OK && n > uint64(z-from) {
		bad = stop{q, from, api.ErrEnds}
	}
	return from, from + int(n), bad
}

// value reads what stands behind a tag, or in a block: a value of a type; it tells the place behind it.
func (r second) value(typ int, of string, q, z, level int) (api.Value, int, stop) {
	switch {
	case typ == api.TMessage:
		from, to, bad := r.length(q, z)
		if bad.err != api.OK {
			return api.Value{}, 0, bad
		}
		v, bad := r.message(of, from, to, level+1)
		return v, to, bad
	case kindOf(typ) == 2:
		return r.text(typ, q, z)
	case kindOf(typ) == 0:
		return r.number(typ, q, z)
	case kindOf(typ) == 5 && z-q >= 4:
		n := binary.LittleEndian.Uint32(r.b[q:])
		if typ == api.TSfixed32 {
			return num(int(int32(n))), q + 4, stop{}
		}
		return num(int(n)), q + 4, stop{}
	case kindOf(typ) == 1 && z-q >= 8:
		return num(int(binary.LittleEndian.Uint64(r.b[q:]))), q + 8, stop{}
	}
	return api.Value{}, 0, stop{q, q, api.ErrEnds}
}

// text reads a text.
func (r second) text(typ, q, z int) (api.Value, int, stop) {
	from, to, bad := r.length(q, z)
	if bad.err != api.OK {
		return api.Value{}, 0, bad
	}
	for i := from; typ == api.TString && i < to; {
		c, n := utf8.DecodeRune(r.b[i:to])
		if c == utf8.RuneError && n == 1 {
			return api.Value{}, 0, stop{i, to, api.ErrUtf8}
		}
		i += n
	}
	return text(string(r.b[from:to])), to, stop{}
}

// number reads a number that is a varint.
func (r second) number(typ, q, z int) (api.Value, int, stop) {
	u, end, bad := r.varint(q, z)
	if bad.err != api.OK {
		return api.Value{}, 0, bad
	}
	n, right := int64(u), true
	switch typ {
	case api.TInt32, api.TEnum:
		right = n == int64(int32(n))
	case api.TUint32:
		right = u <= math.MaxUint32
	case api.TSint32:
		right = u <= math.MaxUint32
		fallthrough
	case api.TSint64:
		n = int64(u / 2)
		if u%2 == 1 {
			n = -n - 1
		}
	case api.TBool:
		right = u < 2
	}
	if !right {
		return api.Value{}, 0, stop{q, end, api.ErrForm}
	}
	return num(int(n)), end, stop{}
}

// message reads a message from p to z.
func (r second) message(name string, p, z, level int) (api.Value, stop) {
	v := msg()
	for p != z {
		u, q, bad := r.varint(p, z)
		if bad.err != api.OK {
			return v, bad
		}
		f, none := r.s.Field(name, int(u>>3))
		if e := r.tag(v, name, f, none, u, level); e != api.OK {
			return v, stop{p, q, e}
		}
		var in api.Value
		last := len(v.Fields) - 1
		if last >= 0 && v.Fields[last].Number == f.Number {
			in = v.Fields[last].Value
			v.Fields = v.Fields[:last]
		}
		if in, p, bad = r.field(f, in, q, z, level); bad.err != api.OK {
			return v, bad
		}
		v.Fields = append(v.Fields, at(f.Number, in))
	}
	return v, stop{}
}

// tag says what is wrong with a tag that stands behind the fields of a message.
func (r second) tag(v api.Value, name string, f api.Field, none api.Errno, u uint64, level int) api.Errno {
	number, kind := u>>3, int(u&7)
	last := uint64(0)
	both := false
	for _, in := range v.Fields {
		g, _ := r.s.Field(name, in.Number)
		both = both || g.Oneof != 0 && g.Oneof == f.Oneof
		last = uint64(in.Number)
	}
	block := f.Card == api.CRepeated && kindOf(f.Type) != 2
	lies := kindOf(f.Type)
	if block || f.Card == api.CMap {
		lies = 2
	}
	again := f.Card == api.CMap || f.Card == api.CRepeated && !block
	for _, c := range []struct {
		holds bool
		e     api.Errno
	}{
		{number == 0 || number > 1<<29-1, api.ErrNumber}, {kind == 6 || kind == 7, api.ErrKind}, {none != api.OK, api.ErrStranger}, {kind != lies, api.ErrWire},
		{number < last || number == last && !again, api.ErrOrder}, {both, api.ErrBoth}, {f.Type == api.TMessage && level == 64, api.ErrDepth},
	} {
		if c.holds {
			return c.e
		}
	}
	return api.OK
}

// field reads what stands in a record of a field, which holds so much already; it tells the place behind it.
func (r second) field(f api.Field, so api.Value, q, z, level int) (api.Value, int, stop) {
	if f.Card == api.CMap {
		from, to, bad := r.length(q, z)
		if bad.err != api.OK {
			return so, 0, bad
		}
		p, bad := r.pair(f, so, from, to, level)
		return dict(append(so.List, p)...), to, bad
	}
	if f.Card == api.CRepeated && kindOf(f.Type) != 2 {
		from, to, bad := r.length(q, z)
		if bad.err == api.OK && from == to {
			bad = stop{q, to, api.ErrEmpty}
		}
		so = list()
		for bad.err == api.OK && from != to {
			var v api.Value
			v, from, bad = r.value(f.Type, f.Of, from, to, level)
			so.List = append(so.List, v)
		}
		return so, to, bad
	}
	v, end, bad := r.value(f.Type, f.Of, q, z, level)
	if f.Card == api.CRepeated {
		return list(append(so.List, v)...), end, bad
	}
	if bad.err == api.OK && f.Card == api.CSingle && f.Oneof == 0 && (same(v, num(0)) || same(v, text(""))) {
		bad = stop{q, end, api.ErrZero}
	}
	return v, end, bad
}

// pair reads a pair from p to z, behind the pairs of so.
func (r second) pair(f api.Field, so api.Value, p, z, level int) (api.Value, stop) {
	out := pair()
	for i, typ := range []int{f.Key, f.Type} {
		if p == z {
			return out, stop{p, p, api.ErrPair}
		}
		u, q, bad := r.varint(p, z)
		if bad.err != api.OK {
			return out, bad
		}
		if u != uint64(8*(i+1)+kindOf(typ)) {
			return out, stop{p, q, api.ErrPair}
		}
		v, end, bad := r.value(typ, f.Of, q, z, level)
		if bad.err != api.OK {
			return out, bad
		}
		if i == 0 && len(so.List) > 0 && !rises(typ, so.List[len(so.List)-1].List[0], v) {
			return out, stop{q, end, api.ErrKeys}
		}
		out.List = append(out.List, v)
		p = end
	}
	if p != z {
		return out, stop{p, p, api.ErrPair}
	}
	return out, stop{}
}

// rises says whether a key is above another.
func rises(typ int, a, b api.Value) bool {
	switch typ {
	case api.TString:
		return a.Text < b.Text
	case api.TUint64, api.TFixed64:
		return uint64(a.Num) < uint64(b.Num)
	}
	return a.Num < b.Num
}
