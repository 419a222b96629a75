package tree_test

import (
	"fmt"
	"math"
	"math/rand"
	"slices"
	"sync"
	"testing"

	"sigil/api"
	"sigil/bind"
	"sigil/tree"
)

// wideSchema is the wide schema, loaded once.
var wideSchema = sync.OnceValue(func() *bind.Schema {
	s, _ := bind.Load([]api.Source{{Name: "f", Text: wide()}})
	return s
})

// maker makes typed trees of the wide schema, with fields, members and keys that come again, and breaks them.
type maker struct{ *rand.Rand }

func newMaker(seed int64) *maker { return &maker{rand.New(rand.NewSource(seed))} }

// message makes a message in which others lie so many levels deep.
func (m *maker) message(name string, levels int) api.Value {
	info, _ := wideSchema().Message(name)
	some := info.Fields
	if m.Intn(2) == 0 { // few fields, so that they come again
		from := m.Intn(len(some))
		some = some[from:min(from+3, len(some))]
	}
	v := msg()
	for range m.Intn(6) {
		f := some[m.Intn(len(some))]
		if f.Type == api.TMessage && levels <= 1 {
			continue
		}
		v.Fields = append(v.Fields, at(f.Number, m.field(f, levels)))
	}
	return v
}

// field makes a value that fits a field.
func (m *maker) field(f api.Field, levels int) api.Value {
	switch f.Card {
	case api.CRepeated:
		l := list()
		for range m.Intn(4) {
			l.List = append(l.List, m.value(f.Type, f.Of, levels))
		}
		return l
	case api.CMap:
		l := dict()
		for range m.Intn(5) {
			l.List = append(l.List, pair(m.value(f.Key, "", levels), m.value(f.Type, f.Of, levels)))
		}
		return l
	}
	return m.value(f.Type, f.Of, levels)
}

// value makes a value of a type.
func (m *maker) value(typ int, of string, levels int) api.Value {
	switch typ {
	case api.TMessage:
		return m.message(of, levels-1)
	case api.TString:
		return text([]string{"", "", "a", "b", "a\x00", "é", "\U0010ffff"}[m.Intn(7)])
	case api.TBytes:
		return text([]string{"", "", "a", "\xff", "\x00"}[m.Intn(5)])
	case api.TBool:
		return num(m.Intn(2))
	case api.TInt32, api.TSint32, api.TSfixed32, api.TEnum:
		return num([]int{0, 0, 1, -1, 64, -65, math.MinInt32, math.MaxInt32, 300}[m.Intn(9)])
	case api.TUint32, api.TFixed32, api.TFloat:
		return num([]int{0, 0, 1, 128, math.MaxUint32, 1 << 31}[m.Intn(6)])
	}
	return num([]int{0, 0, 1, -1, math.MinInt, math.MaxInt, 1 << 40, -1 << 62}[m.Intn(8)])
}

// all are the places of all values that hang on one, itself too.
func all(v *api.Value) []*api.Value {
	l := []*api.Value{v}
	for i := range v.List {
		l = append(l, all(&v.List[i])...)
	}
	for i := range v.Fields {
		l = append(l, all(&v.Fields[i].Value)...)
	}
	return l
}

// copied is a copy that shares nothing.
func copied(v api.Value) api.Value {
	v.List, v.Fields = slices.Clone(v.List), slices.Clone(v.Fields)
	for i := range v.List {
		v.List[i] = copied(v.List[i])
	}
	for i := range v.Fields {
		v.Fields[i].Value = copied(v.Fields[i].Value)
	}
	return v
}

// broken is a tree that is changed in one thing somewhere.
func (m *maker) broken(v api.Value) api.Value {
	v = copied(v)
	places := all(&v)
	p := places[m.Intn(len(places))]
	switch m.Intn(10) {
	case 0:
		p.Kind = m.Intn(9) - 1
	case 1:
		p.Num = []int{-1, 0, 1, 2, math.MaxInt32 + 1, math.MinInt32 - 1, math.MaxUint32 + 1}[m.Intn(7)]
	case 2:
		p.Text = []string{"", "x", "\xff", "a"}[m.Intn(4)]
	case 3:
		p.List = append(p.List, []api.Value{num(0), text(""), msg(), list(), dict(), pair(), pair(text("a"), num(1))}[m.Intn(7)])
	case 4:
		if len(p.List) > 0 {
			p.List = p.List[1:]
		}
	case 5:
		p.Fields = append(p.Fields, at([]int{0, 1, 3, 18, 19, 40, 43, 63, 101, 999}[m.Intn(10)], num(m.Intn(2))))
	case 6:
		if len(p.Fields) > 0 {
			p.Fields[m.Intn(len(p.Fields))].Number += m.Intn(5) - 2
		}
	case 7:
		*p = copied(*places[m.Intn(len(places))])
	case 8:
		m.Shuffle(len(p.List), func(i, j int) { p.List[i], p.List[j] = p.List[j], p.List[i] })
		m.Shuffle(len(p.Fields), func(i, j int) { p.Fields[i], p.Fields[j] = p.Fields[j], p.Fields[i] })
	case 9:
		if len(p.Fields) > 0 {
			p.Fields = append(p.Fields, p.Fields[m.Intn(len(p.Fields))])
		} else if len(p.List) > 0 {
			p.List = append(p.List, p.List[m.Intn(len(p.List))])
		}
	}
	return v
}

// made are trees of a seed: one that is typed, the normal one that it means, and both with things changed.
func made(seed int64) []api.Value {
	m := newMaker(seed)
	v := m.message("w.W", 1+m.Intn(4))
	tidy := secondNormal("w.W", v)
	l := []api.Value{v, tidy}
	for range 4 {
		l = append(l, m.broken(v), m.broken(tidy))
	}
	return append(l, m.broken(m.broken(v)), m.broken(m.broken(tidy)))
}

func TestMade(t *testing.T) { // P801 to P810: what a second reading of the chapter says of made trees
	s := wideSchema()
	seen := map[string]int{}
	for seed := range int64(3000) {
		for _, v := range made(seed) {
			loose, strict := secondCheck("w.W", v)
			seen[fmt.Sprint(strict.e)]++
			if got := typed(t, s, "w.W", v); !loose.is(got.e, got.at) {
				t.Fatalf("P803: Typed(%s) = %v, want %v", short(v), got, loose)
			}
			if got := normal(t, s, "w.W", v); !strict.is(got.e, got.at) {
				t.Fatalf("P803: Normal(%s) = %v, want %v", short(v), got, strict)
			}
			deep(t, v, secondDepth(v))
			if loose.e != api.OK {
				check(t, s, "w.W", v, loose, strict)
				continue
			}
			seen["typed"]++
			meant(t, s, "w.W", v, secondNormal("w.W", v))
			if got, want := first(walked(t, s, "w.W", v), -1), secondWalk(nil, v); !same(got, want) {
				t.Fatalf("P810: Walk(%s) = %v, want %v", short(v), got, want)
			}
			if strict.e == api.OK {
				sized(t, s, "w.W", v, len(secondBytes("w.W", v)))
			}
		}
	}
	for _, what := range []string{"ok", "type", "normal", "typed"} {
		if seen[what] < 1000 {
			t.Errorf("only %d trees are %s", seen[what], what)
		}
	}
}

func TestMadeOrder(t *testing.T) { // P805, P806, P811: made trees are in one order, whichever way they are compared
	var l []api.Value
	for seed := range int64(12) {
		l = append(l, made(seed)...)
	}
	l = append(l, api.Value{}, num(0), num(1), text(""), msg(), list(), dict(), pair())
	for _, a := range l {
		for _, b := range l {
			ordered(t, a, b, secondCompare(a, b))
			for _, typ := range []int{0, api.TInt32, api.TUint64, api.TString, api.TBytes, api.TMessage} {
				if got, want := tree.Keys(typ, a, b), secondKeys(typ, a, b); got != want {
					t.Fatalf("P806: Keys(%d, %s, %s) = %d, want %d", typ, short(a), short(b), got, want)
				}
			}
		}
	}
	for _, typ := range []int{0, api.TInt32, api.TUint64, api.TString} {
		sorted := slices.Clone(l)
		slices.SortStableFunc(sorted, func(a, b api.Value) int { return tree.Keys(typ, a, b) })
		for i, a := range sorted {
			for _, b := range sorted[i:] {
				if tree.Keys(typ, a, b) > 0 {
					t.Fatalf("P811: sorted by %d, %s is behind %s", typ, short(a), short(b))
				}
			}
		}
	}
}
