package stream_test

import (
	"bytes"
	"testing"

	"sigil/api"
	"sigil/stream"
)

// These streams are long, and at very many places they look like something that takes long to look at: Read must not take the square of their length, which would be hours.
const long = 1 << 24

// longStream is a stream of so many bytes whose bytes behind a head are made piece by piece, each for its place; what is left is zeros.
func longStream(h api.Head, piece func(place int) []byte) []byte {
	b := make([]byte, 0, long)
	b = append(b, secondHead(h)...)
	for {
		next := piece(len(b))
		if len(b)+len(next) > long {
			return b[:long]
		}
		b = append(b, next...)
	}
}

// lost looks whether nothing can be read of a stream.
func lost(t *testing.T, h api.Head, b []byte, e api.Errno) {
	t.Helper()
	reads(t, b, nil, api.Hurt{From: len(secondHead(h)), To: len(b), Err: e})
}

func TestOnlyMarks(t *testing.T) { // P1708: marks, one behind the other
	h := exampleHeadFor(2)
	mark := markOf(secondHead(h))
	lost(t, h, longStream(h, func(int) []byte { return mark }), api.ErrBlock)
	lost(t, h, longStream(h, func(int) []byte { return mark[:1] }), api.ErrBlock)
	lost(t, h, longStream(h, func(int) []byte { return mark[:15] }), api.ErrBlock)
}

func TestOnlyBegins(t *testing.T) { // P1708: begins of blocks, each of which reaches to the end, or as far as one record may
	h := headFor(plain, "M", 256)
	mark := markOf(secondHead(h))
	begins := func(size func(place int) int, behind []byte) []byte {
		return longStream(h, func(place int) []byte {
			return join(mark, four(0), four(place), four(1), four(size(place)), behind)
		})
	}
	lost(t, h, begins(func(place int) int { return max(0, long-place-36) }, nil), api.ErrSum)
	lost(t, h, begins(func(place int) int { return max(0, min(1<<20, long-place-36)) }, []byte{0xfd, 0xff, 0x3f, 0x0a, 0xf9, 0xff, 0x3f}), api.ErrSum)
}

func TestBeginsAndBlocks(t *testing.T) { // P1708: right blocks, ahead of each a begin of one that reaches to the end
	h := headFor(plain, "M", 256)
	head := secondHead(h)
	mark := markOf(head)
	number := 0
	var values []api.Value
	var hurts []api.Hurt
	b := longStream(h, func(place int) []byte {
		if len(values) == api.MaxRecords {
			return make([]byte, 1<<16)
		}
		begin := join(mark, four(number), four(place), four(1), four(long-place-36), make([]byte, 100))
		block := right(head, number, place+len(begin), record([]byte{0x0a, 1, 'x'})).bytes()
		number++
		values = append(values, holds("x"))
		hurts = append(hurts, api.Hurt{From: place, To: place + len(begin), Err: api.ErrSum})
		return join(begin, block)
	})
	last := hurts[len(hurts)-1].To + 40
	hurts = append(hurts, api.Hurt{From: last, To: len(b), Err: api.ErrBlock})
	reads(t, b, values, hurts...)
}

func TestRightBlocksBeyondMost(t *testing.T) { // P1704, P1708: right blocks far beyond MaxRecords values
	h := headFor(plain, "M", 1)
	head := secondHead(h)
	number := 0
	empty := record(nil)
	b := longStream(h, func(place int) []byte {
		number++
		return right(head, number, place, empty).bytes()
	})
	l, hurts, e := stream.Read(b)
	from := len(head) + api.MaxRecords*37
	if e != api.OK || len(l) != api.MaxRecords || len(hurts) != 1 || hurts[0] != (api.Hurt{From: from, To: len(b), Err: api.ErrRecords}) {
		t.Errorf("P1704: %d values, %v, %v", len(l), hurts, e)
	}
	out, _, e := stream.Mend(b)
	if e != api.OK || !bytes.Equal(out[:from], secondBehind(h, head, 0, l)) || len(out) != from {
		t.Errorf("P1706: %d bytes, %v", len(out), e)
	}
}
