package stream_test

import (
	"bytes"
	"slices"
	"testing"

	"sigil/api"
	"sigil/stream"
)

func TestAppendErrors(t *testing.T) { // P1702: each error, and of two the first
	h := exampleHeadFor(2)
	head := secondHead(h)
	whole := packed(t, h, as(0, 3)...)
	hurt := turned(whole, 118, 1)
	ended := join(whole, right(head, 1<<32-2, len(whole), numbered(1)).bytes()) // one number is left
	zero := msg(at(1, num(0)))
	many := make([]api.Value, api.MaxRecords)
	appendRefuses(t, turned(hurt, 20, 1), many, 0, api.ErrSum)
	appendRefuses(t, hurt, many, 0, api.ErrBlock)
	appendRefuses(t, hurt, []api.Value{zero}, 0, api.ErrBlock)
	appendRefuses(t, hurt, nil, 0, api.ErrBlock)
	appendRefuses(t, whole[:len(whole)-1], nil, 0, api.ErrBlock)
	appendRefuses(t, join(whole, []byte{0}), nil, 0, api.ErrBlock)
	appendRefuses(t, whole, many, 0, api.ErrRecords)
	appendRefuses(t, whole, many[3:], 0, api.ErrType)
	appendRefuses(t, whole, many[2:], 0, api.ErrRecords)
	appendRefuses(t, ended, many[3:], 0, api.ErrRecords)
	appendRefuses(t, ended, []api.Value{a(1), a(2), a(3), zero, num(1)}, 3, api.ErrNormal)
	appendRefuses(t, ended, []api.Value{a(1), a(2), a(3)}, 0, api.ErrBlock)
	appended(t, h, ended, a(1), a(2))
}

func TestAppend(t *testing.T) { // P1702, P1707: values behind streams of any number of values
	for _, per := range []int{1, 2, 3, 256} {
		h := exampleHeadFor(per)
		for n := range 8 {
			b := packed(t, h, as(0, n)...)
			for k := range 8 {
				out := appended(t, h, b, as(n, n+k)...)
				if !bytes.Equal(out[:len(b)], b) || k == 0 && len(out) != len(b) {
					t.Fatalf("P1702: b does not stand in front of %d bytes", len(out))
				}
				looks(t, out, h, len(secondHead(h)))
				reads(t, out, as(0, n+k))
				again := appended(t, h, out, as(n+k, n+k+3)...)
				reads(t, again, as(0, n+k+3))
				if n == 0 && !bytes.Equal(out, packed(t, h, as(0, k)...)) {
					t.Fatal("P1702: appended to no values other blocks than those that Pack makes")
				}
			}
		}
	}
}

func TestAppendNew(t *testing.T) { // P1702: the last block is not filled up: new values have blocks of their own
	h := exampleHeadFor(4)
	b := packed(t, h)
	for i := range 5 {
		b = appended(t, h, b, a(i))
	}
	blocks := blocksOf(t, b)
	for i, said := range blocks {
		if said[0] != i || said[2] != 1 {
			t.Errorf("P1702: block %d says %v", i, said)
		}
	}
	if len(blocks) != 5 {
		t.Errorf("P1702: %d blocks", len(blocks))
	}
}

func TestAppendNumbers(t *testing.T) { // P1702: numbered on from the last block's number, up to 4294967295
	h := exampleHeadFor(1)
	head := secondHead(h)
	for _, last := range []int{0, 1, 17, 255, 1 << 16, 1<<31 - 1, 1 << 31, 1<<32 - 4} {
		b := join(head, right(head, last, len(head), numbered(1)).bytes())
		out := appended(t, h, b, as(2, 5)...)
		for i, said := range blocksOf(t, out) {
			if said[0] != last+i {
				t.Errorf("P1702: behind the number %d: block %d says %v", last, i, said)
			}
		}
		reads(t, out, as(1, 5))
	}
	for left := range 4 {
		b := join(head, right(head, 1<<32-1-left, len(head), numbered(1)).bytes())
		for n := range 6 {
			if n <= left {
				reads(t, appended(t, h, b, as(2, 2+n)...), as(1, 2+n))
			} else {
				appendRefuses(t, b, as(2, 2+n), 0, api.ErrBlock)
			}
		}
	}
	// It is blocks that have numbers, not values.
	h = exampleHeadFor(256)
	head = secondHead(h)
	b := join(head, right(head, 1<<32-2, len(head), numbered(1)).bytes())
	reads(t, appended(t, h, b, as(2, 258)...), as(1, 258))
	appendRefuses(t, b, as(2, 259), 0, api.ErrBlock)
}

func TestAppendGaps(t *testing.T) { // P1702: the last block's number counts, not how many blocks there are
	h := exampleHeadFor(2)
	head := secondHead(h)
	b := slices.Clone(head)
	for i, number := range []int{4, 9, 300} {
		b = append(b, right(head, number, len(b), numbered(i)).bytes()...)
	}
	out := appended(t, h, b, a(3), a(4), a(5))
	if got := blocksOf(t, out); got[3][0] != 301 || got[4][0] != 302 {
		t.Errorf("P1702: %v", got)
	}
	reads(t, out, as(0, 6))
}

func TestAppendMost(t *testing.T) { // P1702: MaxRecords values together, and one more
	h := exampleHeadFor(256)
	const most = api.MaxRecords
	for _, n := range []int{0, 1, 256, 257, most - 1, most} {
		b := packed(t, h, as(0, n)...)
		reads(t, appended(t, h, b, as(n, most)...), as(0, most))
		appendRefuses(t, b, as(n, most+1), 0, api.ErrRecords)
		appendRefuses(t, b, make([]api.Value, most+1-n), 0, api.ErrRecords)
	}
	b := packed(t, h, as(0, most)...)
	if out, place, e := stream.Append(b, nil); e != api.OK || place != 0 || !bytes.Equal(out, b) {
		t.Errorf("P1707: Append of no values: %d bytes, %d, %v", len(out), place, e)
	}
}
