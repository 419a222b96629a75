package view

import (
	"sigil/api"
	"sigil/wire"
)

// fault is what is wrong with bytes, and the place in them.
type fault struct {
	at  int
	err api.Errno
}

// refuse throws an error, if it is one.
func refuse(at int, e api.Errno) {
	if e != api.OK {
		panic(fault{at, e})
	}
}

// caught does something, and tells the fault that it throws. Of none all is zero.
func caught(do func()) (bad fault) {
	defer func() {
		if thrown := recover(); thrown != nil {
			bad = thrown.(fault)
		}
	}()
	do()
	return fault{}
}

// record is what stands behind a tag of a wire kind, or in a block: a number's bits, or a text.
type record struct {
	kind, num int
	text      []byte
}

// part is a row of bytes that is read from the left.
type part struct {
	*wire.Reader
	bytes []byte
}

// newPart makes a part. None is longer than a message may be.
func newPart(b []byte) part {
	r, _ := wire.Read(b, false)
	return part{r, b}
}

// take takes off what stands behind a tag.
func (p part) take(kind int) record {
	r, e := record{kind: kind}, api.OK
	switch kind {
	case api.WVarint:
		r.num, e = p.Varint()
	case api.WFixed64:
		r.num, e = p.Fixed(8)
	case api.WFixed32:
		r.num, e = p.Fixed(4)
	case api.WText:
		r.text, e = p.content()
	}
	refuse(p.At(), e)
	return r
}

// content takes off a length and the bytes that it spans, which stay where they are.
func (p part) content() ([]byte, api.Errno) {
	text, e := p.Text()
	to := p.At()
	return p.bytes[to-len(text) : to], e
}

// pass passes over what stands behind the tag, at a place, of an unknown record, in a message so deep.
func (p part) pass(at, number, kind, depth int) {
	if kind == api.WEnd { // no group is open: those that begin are passed over with their ends
		refuse(at, api.ErrGroup)
	}
	e := p.Skip(number, kind, api.MaxDepth-depth)
	refuse(p.At(), e)
}
