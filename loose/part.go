package loose

import (
	"strings"

	"sigil/api"
	"sigil/wire"
)

// fault is what is wrong with bytes, and the place where it is.
type fault struct {
	at  int
	err api.Errno
}

// refuse throws an error, if it is one.
func refuse(at int, e api.Errno) {
	if e != api.OK {
		panic(fault{at, e})
	}
}

// part is a row of bytes that is read from the left: all of them, or those that a length spans. It has a reader of its own, so that nothing in it is read beyond its end.
type part struct {
	*wire.Reader
	bytes []byte
	from  int // the place of its first byte
	level int // how many messages lie in one another here: in the top one 1
}

// newPart makes a part. None is longer than all the bytes, which are not too many.
func newPart(b []byte, from, level int) *part {
	r, _ := wire.Read(b, false)
	return &part{r, b, from, level}
}

// place tells where the next byte stands. Behind an error of the reader it is where the fault is.
func (p *part) place() int { return p.from + p.At() }

// tag reads a tag.
func (p *part) tag() (int, int) {
	number, kind, e := p.Tag()
	refuse(p.place(), e)
	return number, kind
}

// varint reads a varint.
func (p *part) varint() int {
	n, e := p.Varint()
	refuse(p.place(), e)
	return n
}

// fixed reads four or eight bytes.
func (p *part) fixed(size int) int {
	n, e := p.Fixed(size)
	refuse(p.place(), e)
	return n
}

// text reads a length and the bytes that it spans.
func (p *part) text() string {
	s, e := p.Text()
	refuse(p.place(), e)
	return s
}

// ownText reads a text that is kept. It is a copy: else it would hold all bytes of the part in which it stands.
func (p *part) ownText() string { return strings.Clone(p.text()) }

// utf8 reads such a text that must be UTF-8.
func (p *part) utf8() string {
	s := p.ownText()
	if bad := wire.Utf8(s); bad >= 0 {
		refuse(p.place()-len(s)+bad, api.ErrUtf8)
	}
	return s
}

// span reads a length, and tells the bytes that it spans as a part of their own.
func (p *part) span(level int) *part {
	size, to := len(p.text()), p.At()
	return newPart(p.bytes[to-size:to], p.place()-size, level)
}

// deepen refuses a message or a group that begins in the part, at a place, if it would be one too deep.
func (p *part) deepen(at int) {
	if p.level == api.MaxDepth {
		refuse(at, api.ErrDepth)
	}
}

// pass passes over what is behind the tag, at a place, of an unknown record.
func (p *part) pass(at, number, kind int) {
	switch kind {
	case api.WEnd: // no group is open: those that begin are passed over with their ends
		refuse(at, api.ErrGroup)
	case api.WStart:
		p.deepen(at)
	}
	e := p.Skip(number, kind, api.MaxDepth-p.level)
	refuse(p.place(), e)
}
