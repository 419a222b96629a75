package tree_test

import (
	"fmt"
	"iter"
	"slices"
	"testing"

	"sigil/api"
	"sigil/bind"
	"sigil/tree"
)

// told is one value that Walk tells.
type told struct {
	at []int
	v  api.Value
}

// walked is the sequence of a tree.
func walked(t *testing.T, s *bind.Schema, name string, v api.Value) iter.Seq2[[]int, api.Value] {
	t.Helper()
	q, e := tree.Walk(s, name, v)
	if e != api.OK || q == nil {
		t.Fatalf("P810: Walk(%s) = %v", short(v), e)
	}
	return q
}

// first is what a sequence tells first: so many, or all (-1).
func first(q iter.Seq2[[]int, api.Value], n int) []told {
	var l []told
	if n == 0 {
		return nil
	}
	for at, v := range q {
		l = append(l, told{at, v})
		if len(l) == n {
			break
		}
	}
	return l
}

// busy is a tree of all kinds of values, neither normal nor in order.
func busy() (api.Value, []told) {
	inner := msg(at(2, num(0)), at(1, num(7)))
	items := list(num(3), num(0))
	deeper := one(repeated+api.TMessage, list(inner, msg()))
	p0, p1 := kv("z", inner), kv("a", msg())
	pairs := dict(p0, p1)
	v := msg(at(repeated+3, items), at(1, num(5)), at(api.TMessage, deeper), at(mapped+api.TMessage, pairs), at(1, num(0)), at(mapped+1, dict()), at(api.TString, text("é")))
	return v, []told{
		{nil, v},
		{trail(repeated + 3), items}, {trail(repeated+3, 0), num(3)}, {trail(repeated+3, 1), num(0)},
		{trail(1), num(5)},
		{trail(api.TMessage), deeper}, {trail(api.TMessage, repeated+api.TMessage), deeper.Fields[0].Value},
		{trail(api.TMessage, repeated+api.TMessage, 0), inner}, {trail(api.TMessage, repeated+api.TMessage, 0, 2), num(0)}, {trail(api.TMessage, repeated+api.TMessage, 0, 1), num(7)},
		{trail(api.TMessage, repeated+api.TMessage, 1), msg()},
		{trail(mapped + api.TMessage), pairs},
		{trail(mapped+api.TMessage, 0), p0}, {trail(mapped+api.TMessage, 0, 1), text("z")},
		{trail(mapped+api.TMessage, 0, 2), inner}, {trail(mapped+api.TMessage, 0, 2, 2), num(0)}, {trail(mapped+api.TMessage, 0, 2, 1), num(7)},
		{trail(mapped+api.TMessage, 1), p1}, {trail(mapped+api.TMessage, 1, 1), text("a")}, {trail(mapped+api.TMessage, 1, 2), msg()},
		{trail(1), num(0)},
		{trail(mapped + 1), dict()},
		{trail(api.TString), text("é")},
	}
}

func TestWalk(t *testing.T) { // P810: all values in the walk's order, to the end, left early, and again
	s := load(t, wide())
	v, want := busy()
	q := walked(t, s, "w.W", v)
	for n := range len(want) + 1 {
		if got := first(q, n); !same(got, want[:n]) {
			t.Errorf("P810: the first %d: %+v, want %+v", n, got, want[:n])
		}
		if got := first(q, -1); !same(got, want) {
			t.Errorf("P810: ranged over again: %+v", got)
		}
	}
	if got := first(walked(t, s, "w.W", msg()), -1); !same(got, []told{{nil, msg()}}) {
		t.Errorf("P810: of the message without fields: %+v", got)
	}
}

func TestWalkStopped(t *testing.T) { // P810: who stops is told no more
	s := load(t, wide())
	v, want := busy()
	q := walked(t, s, "w.W", v)
	for stop := range want {
		calls := 0
		q(func([]int, api.Value) bool {
			calls++
			return calls <= stop
		})
		if calls != stop+1 {
			t.Errorf("P810: stopped at %d, told %d", stop+1, calls)
		}
	}
}

func TestWalkWithin(t *testing.T) { // P810: one range within another, and sequences of other trees beside it
	s := load(t, wide())
	v, want := busy()
	q, other := walked(t, s, "w.W", v), walked(t, s, "w.V", one(1, num(9)))
	i := 0
	for at, v := range q {
		if !same(told{at, v}, want[i]) || !same(first(q, i), want[:i]) || !same(first(other, -1), []told{{nil, one(1, num(9))}, {trail(1), num(9)}}) {
			t.Fatalf("P810: at %d: %v, %s", i, at, short(v))
		}
		i++
	}
	next, stop := iter.Pull2(q)
	defer stop()
	for i := range want {
		if at, v, ok := next(); !ok || !same(told{at, v}, want[i]) {
			t.Errorf("P810: pulled %d: %v, %s", i, at, short(v))
		}
	}
	if _, _, ok := next(); ok {
		t.Error("P810: more was pulled than there is")
	}
}

func TestWalkWrittenOver(t *testing.T) { // P810, P2: what is told is new memory, trails and values: what is done with it is seen nowhere
	s := load(t, wide())
	v, want := busy()
	before := fmt.Sprintf("%+v", v)
	q := walked(t, s, "w.W", v)
	for range 2 {
		i := 0
		for at, v := range q {
			if !same(told{at, v}, want[i]) {
				t.Fatalf("P810: at %d: %v, %s, want %v, %s", i, at, short(v), want[i].at, short(want[i].v))
			}
			at = at[:cap(at)]
			for j := range at {
				at[j] = -7
			}
			_ = append(at[:0], 1, 2, 3)
			spoilValue(&v)
			i++
		}
	}
	if got := fmt.Sprintf("%+v", v); got != before {
		t.Errorf("P2: what was handed in is changed: %s", got)
	}
}

// spoilValue writes over all that hangs on a value, spare room too.
func spoilValue(v *api.Value) {
	v.List, v.Fields = v.List[:cap(v.List)], v.Fields[:cap(v.Fields)]
	for i := range v.List {
		spoilValue(&v.List[i])
	}
	for i := range v.Fields {
		spoilValue(&v.Fields[i].Value)
		v.Fields[i].Number = -7
	}
	*v = api.Value{Kind: -7, Num: -7, Text: "spoilt"}
}

func TestWalkOfWhatChanged(t *testing.T) { // P2: a sequence does not keep the tree that was handed in
	s := load(t, wide())
	v, _ := busy()
	_, want := busy()
	q := walked(t, s, "w.W", v)
	spoilValue(&v)
	if got := first(q, -1); !same(got, want) {
		t.Errorf("P2: Walk tells what was changed behind it: %+v", got)
	}
}

func TestWalkAndDepth(t *testing.T) { // P813: Depth is the greatest number of messages on a way, as Walk tells it
	s := load(t, wide())
	for seed := range int64(300) {
		v := newMaker(seed).message("w.W", 4)
		most := 0
		var open []told // the values on the way
		for at, v := range walked(t, s, "w.W", v) {
			for len(open) > 0 && !leads(open[len(open)-1].at, at) {
				open = open[:len(open)-1]
			}
			open = append(open, told{at, v})
			n := 0
			for _, o := range open {
				if o.v.Kind == api.VMessage {
					n++
				}
			}
			most = max(most, n)
		}
		deep(t, v, most)
	}
}

// leads says whether a trail is the beginning of a longer one.
func leads(short, long []int) bool {
	return len(short) < len(long) && slices.Equal(short, long[:len(short)])
}
