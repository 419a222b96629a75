package compat

import (
	"cmp"
	"slices"

	"sigil/api"
	"sigil/bind"
)

// pair is a pair of types that meet, with what it was found by: the place of another pair, and the number of a field there.
type pair struct {
	old, now     *api.Message
	from, number int
	steps        int // how long its path is: kept whole, the paths of a long chain would be far larger than all else
}

// meeting is all pairs of types that meet, in the order in which they were found.
type meeting struct {
	rules []rule
	pairs []pair
	found map[names]int // their places
}

// names are those of a pair's types.
type names struct{ old, now string }

// side is a schema, with the messages that were asked of it: each is asked for once, as its answer is a copy.
type side struct {
	schema *bind.Schema
	asked  map[string]*api.Message
}

func newSide(s *bind.Schema) side { return side{s, map[string]*api.Message{}} }

// message tells a message of the schema, or the error of its name.
func (s side) message(name string) (*api.Message, api.Errno) {
	if m := s.asked[name]; m != nil {
		return m, api.OK
	}
	m, e := s.schema.Message(name)
	if e != api.OK {
		return nil, e
	}
	s.asked[m.Name] = &m
	return &m, api.OK
}

// meet tells the pairs of types that meet from two on, or the error of the names or of too many pairs.
func meet(old *bind.Schema, wrote string, now *bind.Schema, reads string) (*meeting, api.Errno) {
	olds, nows := newSide(old), newSide(now)
	first, e := olds.message(wrote)
	if e != api.OK {
		return nil, e
	}
	second, e := nows.message(reads)
	if e != api.OK {
		return nil, e
	}
	m := &meeting{rules: rules(), found: map[names]int{}}
	m.add(pair{old: first, now: second})
	for i := 0; i < len(m.pairs); i++ {
		m.follow(i, olds, nows)
		if len(m.pairs) > api.MaxPairs {
			return nil, api.ErrBreaks
		}
	}
	return m, api.OK
}

// add takes in a pair, if it was not found before.
func (m *meeting) add(p pair) {
	both := names{p.old.Name, p.now.Name}
	if _, ok := m.found[both]; ok {
		return
	}
	m.found[both] = len(m.pairs)
	m.pairs = append(m.pairs, p)
}

// follow takes in the pairs that are found by the fields of another one.
func (m *meeting) follow(place int, olds, nows side) {
	p := m.pairs[place]
	for _, f := range p.old.Fields {
		g, ok := numbered(p.now, f.Number)
		if !ok || !isMessage(f) || !isMessage(g) || broken(m.rules, f, g) != 0 {
			continue
		}
		// What a field names is there: the schema was checked.
		old, _ := olds.message(f.Of)
		now, _ := nows.message(g.Of)
		m.add(pair{old, now, place, f.Number, p.steps + 1})
	}
}

// path tells the path by which a pair was found, with numbers behind it.
func (m *meeting) path(place int, behind ...int) []int {
	steps := m.pairs[place].steps
	l := make([]int, steps+len(behind))
	copy(l[steps:], behind)
	for steps--; steps >= 0; steps-- {
		l[steps] = m.pairs[place].number
		place = m.pairs[place].from
	}
	return l
}

// numbered tells the field of a message that has a number.
func numbered(m *api.Message, number int) (api.Field, bool) {
	i, ok := slices.BinarySearchFunc(m.Fields, number, func(f api.Field, n int) int { return cmp.Compare(f.Number, n) })
	if !ok {
		return api.Field{}, false
	}
	return m.Fields[i], true
}
