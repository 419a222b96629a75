package view_test

import (
	"slices"
	"testing"

	"sigil/api"
	"sigil/path"
	"sigil/view"
)

// judged looks whether a view of bytes answers at a path what a second reading says; it counts what that is.
func judged(t *testing.T, q second, g glass, steps []api.Step, seen map[any]int) {
	t.Helper()
	p, e := path.Print(g.s, g.name, steps)
	if e != api.OK {
		return
	}
	w := q.says(g.name, g.b, steps)
	g.asked(t, p, w.has, w.got, w.size, w.content)
	seen[w.has]++
	if e, bad := w.got.(api.Errno); bad && w.has == true {
		seen["whole: "+e.Error()]++
	}
}

// opened opens bytes, or looks whether they are refused as a second reading says.
func opened(t *testing.T, q second, name string, b []byte) (glass, bool) {
	t.Helper()
	_, place, e := split(b, 1, ofMessage(q.s, name))
	if e != api.OK {
		refuses(t, q.s, name, b, place, e)
		return glass{}, false
	}
	return open(t, q.s, name, b), true
}

func TestMade(t *testing.T) { // P2101 to P2108: what a second reading of the chapter says of made messages, right ones and broken ones, at paths into them
	t.Parallel()
	q, seen := ofWide(), map[any]int{}
	for seed := range int64(1500) {
		for _, name := range q.s.Messages() {
			m := newMaker(seed)
			m.rare = pick(m, 0, 20, 60, 150)
			g, ok := opened(t, q, name, m.message(name, 1+m.Intn(5)))
			if !ok {
				t.Fatalf("a made message is refused: %s", some(g.b))
			}
			for range 12 {
				judged(t, q, g, m.steps(q, name, g.b), seen)
			}
		}
	}
	for _, want := range []any{true, false, api.ErrEnds, api.ErrOver, api.ErrNumber, api.ErrKind, api.ErrGroup, api.ErrUtf8, "whole: ends", "whole: utf8", "whole: number", "whole: group"} {
		if seen[want] < 20 {
			t.Errorf("%d of the answers are %v: too few", seen[want], want)
		}
	}
}

func TestMangled(t *testing.T) { // P2101 to P2108: messages of which some bytes are changed, put in, taken out, cut off
	t.Parallel()
	q, seen := ofWide(), map[any]int{}
	refused := 0
	for seed := range int64(1500) {
		for _, name := range q.s.Messages() {
			m := newMaker(seed)
			right := m.message(name, 1+m.Intn(5))
			for _, b := range [][]byte{m.mangled(right), m.mangled(right), right[:m.Intn(len(right)+1)]} {
				g, ok := opened(t, q, name, b)
				if !ok {
					refused++
					continue
				}
				for range 5 {
					judged(t, q, g, m.steps(q, name, b), seen)
				}
			}
		}
	}
	if refused < 500 || seen[true] < 500 || seen[api.ErrEnds] < 50 {
		t.Errorf("the mangled messages have too few faults: %d are refused, %v", refused, seen)
	}
}

func TestDeepMade(t *testing.T) { // P2101, P2103: made messages that lie so deep that some are the 65th
	t.Parallel()
	q, seen := ofWide(), map[any]int{}
	for seed := range int64(500) {
		m := newMaker(seed)
		m.rare = pick(m, 0, 0, 60)
		in := m.message("w.W", 5)
		levels := 59 + m.Intn(6)
		b, p := deep(levels, m.Intn(10), in)
		g, ok := opened(t, q, "w.W", b)
		if !ok {
			continue
		}
		at := parsed(t, g, p)
		for range 5 {
			judged(t, q, g, append(slices.Clone(at), m.steps(q, "w.W", in)...), seen)
		}
	}
	if seen[api.ErrDepth] < 50 || seen["whole: depth"] < 20 || seen[true] < 50 {
		t.Errorf("the deep messages have too few faults: %v", seen)
	}
}

func TestAllSmallRows(t *testing.T) { // P2101 to P2108: all rows of few bytes, at every kind of place
	t.Parallel()
	q, seen := ofSmall(), map[any]int{}
	paths := []string{"", "a", "b", "c", "c[0]", "c[1]", "d", `d[""]`, `d[""].a`, "e", "f", "g", "g.a", "g.g"}
	steps := map[string][]api.Step{}
	v, _, _ := view.Open(q.s, "p.M", nil)
	for _, p := range paths {
		steps[p] = parsed(t, glass{v, q.s, "p.M", nil}, p)
	}
	try := func(b []byte) {
		g, ok := opened(t, q, "p.M", b)
		for _, p := range paths {
			if ok {
				judged(t, q, g, steps[p], seen)
			}
		}
	}
	for i := range 256 {
		try([]byte{byte(i)})
	}
	letters := row("00 01 02 04 08 0a 0b 0c 12 1a 22 28 3a 80 ff")
	for length := 2; length <= 4; length++ {
		all := 1
		for range length {
			all *= len(letters)
		}
		for i := range all {
			b := make([]byte, length)
			for k := range b {
				b[k] = letters[i%len(letters)]
				i /= len(letters)
			}
			if try(b); t.Failed() {
				return
			}
		}
	}
	if seen[true] < 5000 || seen[api.ErrEnds] < 500 {
		t.Errorf("too few answers: %v", seen)
	}
}
