package wire_test

import (
	"math/big"
	"math/rand"
	"strings"
	"testing"

	"sigil/api"
)

// model takes bytes to pieces as the chapter says it, in the plainest way: from a place in them on, with recursion.
type model struct {
	b      []byte
	strict bool
}

// varint tells the value of the varint at a place and where it ends, or its fault.
func (m model) varint(at int) (uint64, int, api.Errno) {
	n := 0
	for at+n < len(m.b) && m.b[at+n] >= 128 {
		n++
	}
	if n >= 9 && at+9 < len(m.b) && m.b[at+9] > 1 {
		return 0, at, api.ErrOver
	}
	if at+n == len(m.b) {
		return 0, at, api.ErrEnds
	}
	if m.strict && n > 0 && m.b[at+n] == 0 {
		return 0, at, api.ErrLonger
	}
	v := new(big.Int)
	for i := n; i >= 0; i-- {
		v.Mul(v, big.NewInt(128))
		v.Add(v, big.NewInt(int64(m.b[at+i]%128)))
	}
	return v.Uint64(), at + n + 1, api.OK
}

// records tells the records from a place on, down to the end of the group (0: of the bytes), and the place behind; or the place of the first fault and its error.
func (m model) records(at, group, depth int) ([]api.Record, int, api.Errno) {
	var l []api.Record
	for {
		if at == len(m.b) {
			if group != 0 {
				return nil, at, api.ErrEnds
			}
			return l, at, api.OK
		}
		tag, next, e := m.varint(at)
		number, kind := tag/8, int(tag%8)
		switch {
		case e != api.OK:
			return nil, at, e
		case number == 0 || number > 536870911:
			return nil, at, api.ErrNumber
		case kind > 5:
			return nil, at, api.ErrKind
		case kind == 4 && group != int(number):
			return nil, at, api.ErrGroup
		case kind == 4:
			return l, next, api.OK
		case kind == 3 && depth == 63:
			return nil, at, api.ErrDepth
		}
		r := api.Record{Number: int(number), Kind: kind}
		if kind == 3 {
			r.Inner, at, e = m.records(next, r.Number, depth+1)
		} else {
			r.Num, r.Text, at, e = m.content(kind, next)
		}
		if e != api.OK {
			return nil, at, e
		}
		l = append(l, r)
	}
}

// content tells what a number or a text at a place is, and where it ends.
func (m model) content(kind, at int) (int, string, int, api.Errno) {
	if kind == 1 || kind == 5 {
		size := map[int]int{1: 8, 5: 4}[kind]
		if len(m.b)-at < size {
			return 0, "", at, api.ErrEnds
		}
		v := 0
		for i := size - 1; i >= 0; i-- {
			v = v*256 + int(m.b[at+i])
		}
		return v, "", at + size, api.OK
	}
	v, next, e := m.varint(at)
	if e != api.OK {
		return 0, "", at, e
	}
	if kind == 0 {
		return int(v), "", next, api.OK
	}
	if v > uint64(len(m.b)-next) {
		return 0, "", at, api.ErrEnds
	}
	end := next + int(v)
	return 0, string(m.b[next:end]), end, api.OK
}

// split is what Split should answer.
func (m model) split() ([]api.Record, int, api.Errno) {
	l, at, e := m.records(0, 0, 0)
	if e == api.OK {
		at = 0
	}
	return l, at, e
}

// same says whether records are the same, nil and empty lists too.
func same(a, b []api.Record) bool {
	if len(a) != len(b) {
		return false
	}
	for i := range a {
		x, y := a[i], b[i]
		if x.Number != y.Number || x.Kind != y.Kind || x.Num != y.Num || x.Text != y.Text || !same(x.Inner, y.Inner) {
			return false
		}
	}
	return true
}

// groups is so many groups of the number 1 in one another.
func groups(n int) string { return strings.Repeat("0b", n) + strings.Repeat("0c", n) }

// eachRow calls with all rows of up to most of these bytes.
func eachRow(alphabet []byte, most int, call func(b []byte)) {
	var grow func(b []byte)
	grow = func(b []byte) {
		call(b)
		if len(b) == most {
			return
		}
		for _, c := range alphabet {
			grow(append(b[:len(b):len(b)], c))
		}
	}
	grow(nil)
}

// someRecords makes right records.
func someRecords(r *rand.Rand, depth int) []api.Record {
	var l []api.Record
	for range r.Intn(5) {
		rec := api.Record{Number: 1 + r.Intn(1<<r.Intn(29)), Kind: []int{0, 1, 2, 3, 5}[r.Intn(5)]}
		switch rec.Kind {
		case 0, 1:
			rec.Num = int(r.Uint64() >> r.Intn(64))
		case 2:
			text := make([]byte, r.Intn(200)>>r.Intn(8))
			r.Read(text)
			rec.Text = string(text)
		case 3:
			if depth > 0 {
				rec.Inner = someRecords(r, depth-1)
			}
		case 5:
			rec.Num = int(r.Uint32())
		}
		l = append(l, rec)
	}
	return l
}

// slowJoin writes right records, with varints that are up to so many bytes longer than they must be.
func slowJoin(r *rand.Rand, l []api.Record, longer int) []byte {
	var b []byte
	varint := func(v int) {
		c := slowVarint(v)
		for range r.Intn(longer + 1) {
			if len(c) < 10 {
				c[len(c)-1] |= 0x80
				c = append(c, 0)
			}
		}
		b = append(b, c...)
	}
	for _, rec := range l {
		varint(rec.Number*8 + rec.Kind)
		switch rec.Kind {
		case 0:
			varint(rec.Num)
		case 2:
			varint(len(rec.Text))
			b = append(b, rec.Text...)
		case 3:
			b = append(b, slowJoin(r, rec.Inner, longer)...)
			varint(rec.Number*8 + 4)
		default:
			for i := range map[int]int{1: 8, 5: 4}[rec.Kind] {
				b = append(b, byte(uint64(rec.Num)>>(8*i)))
			}
		}
	}
	return b
}

// eachTry calls with bytes of many forms: all short rows of telling bytes, records, and records with a byte changed or their end cut off.
func eachTry(t *testing.T, call func(b []byte)) {
	t.Helper()
	eachRow([]byte{0x00, 0x01, 0x08, 0x09, 0x0a, 0x0b, 0x0c, 0x0d, 0x0e, 0x0f, 0x13, 0x14, 0x80, 0xff}, 4, call)
	eachRow([]byte{0x00, 0x08, 0x0b, 0x0c, 0x13, 0x14, 0x80}, 6, call)
	r := rand.New(rand.NewSource(208))
	for range 20000 {
		b := slowJoin(r, someRecords(r, 4), r.Intn(4))
		call(b)
		if len(b) == 0 {
			continue
		}
		call(b[:r.Intn(len(b))])
		b[r.Intn(len(b))] = byte(r.Uint32())
		call(b)
		r.Read(b)
		call(b)
	}
}
