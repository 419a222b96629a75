package strict

import (
	"sigil/api"
	"sigil/wire"
)

// fault is what is wrong with bytes, and the place where it is.
type fault struct {
	at  int
	err api.Errno
}

// refuse throws an error, if it is one.
func refuse(at int, e api.Errno) {
	if e != api.OK {
		panic(fault{at, e})
	}
}

// part is a row of bytes that is read from the left: all of them, or those that a length spans. It has a reader of its own, so that nothing in it is read beyond its end.
type part struct {
	*wire.Reader
	bytes []byte
	from  int // the place of its first byte
	level int // how many messages lie in one another here: in the top one 1
}

// newPart makes a part. None is longer than all the bytes, which are not too many.
func newPart(b []byte, from, level int) *part {
	r, _ := wire.Read(b, true)
	return &part{r, b, from, level}
}

// place tells where the next byte stands. Behind an error of the reader it is where that began to read.
func (p *part) place() int { return p.from + p.At() }

// tag reads the tag of a message's record.
func (p *part) tag() (int, int) {
	number, kind, e := p.Tag()
	refuse(p.place(), e)
	return number, kind
}

// varint reads a varint.
func (p *part) varint() int {
	n, e := p.Varint()
	refuse(p.place(), e)
	return n
}

// fixed reads four or eight bytes.
func (p *part) fixed(size int) int {
	n, e := p.Fixed(size)
	refuse(p.place(), e)
	return n
}

// text reads a length and the bytes that it spans.
func (p *part) text() string {
	s, e := p.Text()
	refuse(p.place(), e)
	return s
}

// span reads them as a part of their own.
func (p *part) span(level int) *part {
	size, to := len(p.text()), p.At()
	return newPart(p.bytes[to-size:to], p.place()-size, level)
}

// expect reads the tag of a pair's record. Of a pair any other tag is at fault in one way, also one that no record has.
func (p *part) expect(number, kind int) {
	at := p.place()
	if !p.More() || p.varint() != 8*number+kind {
		refuse(at, api.ErrPair)
	}
}
