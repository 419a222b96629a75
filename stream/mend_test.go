package stream_test

import (
	"bytes"
	"slices"
	"testing"

	"sigil/api"
	"sigil/stream"
)

func TestMendWhole(t *testing.T) { // P1706, P1711: Mend of what Pack made is just that
	for _, per := range []int{1, 2, 3, 256} {
		for n := range 10 {
			b := packed(t, exampleHeadFor(per), as(0, n)...)
			if out, hurts, e := stream.Mend(b); e != api.OK || len(hurts) > 0 || !bytes.Equal(out, b) {
				t.Errorf("P1711: Mend of %d values with Per %d: %v, %v", n, per, hurts, e)
			}
		}
	}
}

func TestMendHurt(t *testing.T) { // P1706, P1711: Mend of a hurt stream: the values in new blocks, numbered from 0 on
	h := exampleHeadFor(2)
	b := packed(t, h, as(0, 9)...)
	blocks := blocksOf(t, b)
	for i, said := range blocks {
		from, to := said[1], said[1]+36+said[3]
		l := slices.Concat(as(0, 2*i), as(2*i+said[2], 9))
		out, hurts, e := stream.Mend(turned(b, from+34, 1))
		if want := packed(t, h, l...); e != api.OK || !slices.Equal(hurts, []api.Hurt{{From: from, To: to, Err: api.ErrSum}}) || !bytes.Equal(out, want) {
			t.Errorf("P1706: Mend with the block %d broken = %d bytes, %v, %v", i, len(out), hurts, e)
		}
		looks(t, out, h, 85)
		reads(t, out, l)
	}
	over := join(b[:85], make([]byte, len(b)-85))
	out, hurts, e := stream.Mend(over)
	if e != api.OK || !slices.Equal(hurts, []api.Hurt{{From: 85, To: len(b), Err: api.ErrBlock}}) || !bytes.Equal(out, b[:85]) {
		t.Errorf("P1706: Mend with all broken = %d bytes, %v, %v", len(out), hurts, e)
	}
}

func TestMendAppended(t *testing.T) { // P1706, P1711: blocks that are not full, whose numbers have gaps, that have more than MaxBlock bytes, are made anew
	h := exampleHeadFor(4)
	b := packed(t, h, a(0))
	for i := 1; i < 9; i++ {
		b = appended(t, h, b, a(i))
	}
	head := secondHead(h)
	b = append(b, right(head, 77, len(b), numbered(9), numbered(10)).bytes()...)
	out, hurts, e := stream.Mend(b)
	if e != api.OK || len(hurts) > 0 || !bytes.Equal(out, packed(t, h, as(0, 11)...)) {
		t.Errorf("P1706: Mend = %d bytes, %v, %v", len(out), hurts, e)
	}
	h = headFor(plain, "M", 3)
	head = secondHead(h)
	half := record(join([]byte{0x0a}, record(make([]byte, 1<<19))))
	v := holds(string(make([]byte, 1<<19)))
	out, hurts, e = stream.Mend(join(head, right(head, 0, len(head), half, half, half).bytes()))
	if e != api.OK || len(hurts) > 0 || !bytes.Equal(out, packed(t, h, v, v, v)) || len(blocksOf(t, out)) != 3 {
		t.Errorf("P1706: Mend = %d bytes, %v, %v", len(out), hurts, e)
	}
}

func TestMendMost(t *testing.T) { // P1706: of more than MaxRecords values those that Read tells
	h := exampleHeadFor(256)
	head := secondHead(h)
	b := packed(t, h, as(0, api.MaxRecords)...)
	more := join(b, right(head, 500, len(b), numbered(1)).bytes())
	out, hurts, e := stream.Mend(more)
	if e != api.OK || !slices.Equal(hurts, []api.Hurt{{From: len(b), To: len(more), Err: api.ErrRecords}}) || !bytes.Equal(out, b) {
		t.Errorf("P1706: Mend = %d bytes, %v, %v", len(out), hurts, e)
	}
}
