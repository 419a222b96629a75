package tree_test

import (
	"strings"
	"testing"

	"sigil/api"
	"sigil/tree"
)

// crowd is a normal message of the wide schema on which more values hang than may be: most of them share their memory.
func crowd() api.Value {
	row := make([]api.Value, 2048)
	for i := range row {
		row[i] = msg()
	}
	rows := make([]api.Value, 2048)
	for i := range rows {
		rows[i] = one(repeated+api.TMessage, list(row...))
	}
	return one(repeated+api.TMessage, list(rows...))
}

// reason is something for which a tree is refused: an entry that has it, and what is told of it.
type reason struct {
	entry  api.Entry
	answer answer
}

// reasons are the reasons for which a tree is refused, in the order of P801. The numbers of the last three rise.
func reasons() []reason {
	return []reason{
		{at(ofV, one(2, crowd())), fault(api.ErrLong)},
		{at(listV, list(one(2, nested(197, num(0))))), fault(api.ErrDepth)},
		{at(18, num(0)), fault(api.ErrType, 18)},
		{at(api.TInt32, num(0)), fault(api.ErrNormal, api.TInt32)},
		{at(member+api.TMessage, chain(63, api.TMessage, msg())), fault(api.ErrDepth, joined(trail(member+api.TMessage), times(63, api.TMessage))...)},
		{at(tail, text(strings.Repeat("x", api.MaxMessage))), fault(api.ErrSize)},
	}
}

func TestOrderOfErrors(t *testing.T) { // P801: each error alone, two at a time, all at once
	s := load(t, wide())
	long, none := strings.Repeat("w", api.MaxName+1), "w.N"
	all := reasons()
	asked := func(name string, l ...reason) {
		t.Helper()
		v := msg()
		var loose, strict answer
		for _, r := range l {
			v.Fields = append(v.Fields, r.entry)
			if strict.e == api.OK {
				strict = r.answer
			}
			if loose.e == api.OK && r.answer.e != api.ErrNormal && r.answer.e != api.ErrSize {
				loose = r.answer
			}
		}
		switch name {
		case long:
			loose, strict = fault(api.ErrLong), fault(api.ErrLong)
		case none:
			loose, strict = fault(api.ErrName), fault(api.ErrName)
		}
		// Size alone has ErrSize.
		if strict.e == api.ErrSize {
			if got := normal(t, s, name, v); !fine().is(got.e, got.at) {
				t.Errorf("P801: Normal answers %v of a tree that is too large", got)
			}
			if got := size(t, s, name, v); !strict.is(got.e, got.at) {
				t.Errorf("P801: Size answers %v, want %v", got, strict)
			}
			if got := typed(t, s, name, v); !loose.is(got.e, got.at) {
				t.Errorf("P801: Typed answers %v of a tree that is too large", got)
			}
			return
		}
		check(t, s, name, v, loose, strict)
	}
	for _, name := range []string{"w.W", long, none} {
		asked(name)
		for i, r := range all {
			asked(name, r)
			for _, other := range all[i+1:] {
				asked(name, r, other)
			}
		}
		asked(name, all...)
		asked(name, all[2:]...)
		asked(name, all[3:]...)
	}
}

func TestOrderBackward(t *testing.T) { // P801: which of two stands first in the tree does not matter
	s := load(t, wide())
	all := reasons()
	for i, r := range all[:4] {
		for _, other := range all[i+1:] {
			if got := size(t, s, "w.W", msg(other.entry, r.entry)); !r.answer.is(got.e, got.at) {
				t.Errorf("P801: Size answers %v, want %v: %d behind %d", got, r.answer, r.entry.Number, other.entry.Number)
			}
		}
	}
	if got := typed(t, s, "w.W", msg(all[5].entry, all[4].entry)); !all[4].answer.is(got.e, got.at) {
		t.Errorf("P801: Typed answers %v, want %v", got, all[4].answer)
	}
}

func TestNames(t *testing.T) { // P801: names of all lengths, and of what is no message
	full := "message " + strings.Repeat("n", 252) + " { }"
	s := load(t, `syntax = "proto3"; package p; enum E { Z = 0; } `+full)
	for name, want := range map[string]api.Errno{
		"p." + strings.Repeat("n", 252):  api.OK,
		"p." + strings.Repeat("n", 251):  api.ErrName,
		"p." + strings.Repeat("n", 253):  api.ErrName,
		"p." + strings.Repeat("n", 254):  api.ErrLong,
		strings.Repeat("x", 255):         api.ErrName,
		strings.Repeat("x", 256):         api.ErrLong,
		strings.Repeat("x", 100000):      api.ErrLong,
		"":                               api.ErrName,
		"p":                              api.ErrName,
		"p.E":                            api.ErrName,
		"." + "p.E":                      api.ErrName,
		"n":                              api.ErrName,
		"p.\xff":                         api.ErrName,
		".p." + strings.Repeat("n", 252): api.ErrName,
	} {
		check(t, s, name, msg(), fault(want), fault(want))
		if want != api.OK {
			check(t, s, name, num(1), fault(want), fault(want))
		}
	}
}

// many are so many numbers in a list that a tree of a message with it has n values.
func many(n int) api.Value {
	l := make([]api.Value, n-2)
	for i := range l {
		l[i] = num(1)
	}
	return one(3, list(l...))
}

func TestMostValues(t *testing.T) { // P6: MaxValues values and one more
	s := load(t, small)
	v := many(api.MaxValues + 1)
	l := v.Fields[0].Value.List
	right := one(3, list(l[:len(l)-1]...))
	if got := normal(t, s, "p.M", right); got.e != api.OK {
		t.Errorf("P6: Normal answers %v of MaxValues values", got)
	}
	if got := size(t, s, "p.M", right); !fault(api.ErrSize).is(got.e, got.at) {
		t.Errorf("P6: Size answers %v of MaxValues values", got)
	}
	check(t, s, "p.M", v, fault(api.ErrLong), fault(api.ErrLong))
	deep(t, right, 1)
	deep(t, v, 0)
	ordered(t, v, api.Value{}, 0)
	ordered(t, v, num(0), -1)
	ordered(t, v, api.Value{Kind: -1}, 1)
	ordered(t, right, msg(), 1)
	ordered(t, right, v, 1)
	q, e := tree.Walk(s, "p.M", right)
	if e != api.OK {
		t.Fatalf("P6: Walk answers %v of MaxValues values", e)
	}
	n := 0
	for range q {
		n++
	}
	if n != api.MaxValues {
		t.Errorf("P810: Walk tells %d values of MaxValues", n)
	}
}

func TestWhatCounts(t *testing.T) { // P6: every value counts, in lists and in fields, as often as it hangs there, whatever its kind
	s := load(t, small)
	values := make([]api.Value, 512)
	entries := make([]api.Entry, 512)
	for i := range values {
		values[i], entries[i] = num(1), at(1, num(1))
	}
	// A row and what hangs on it are 1024 values; all rows are MaxValues, and with the top one more.
	rows := make([]api.Value, 4096)
	for i := range rows {
		rows[i] = api.Value{Kind: 9, List: values[:511], Fields: entries}
	}
	v := api.Value{List: rows}
	ordered(t, v, api.Value{}, 0)
	check(t, s, "p.M", v, fault(api.ErrLong), fault(api.ErrLong))
	rows[7].Fields = entries[:511]
	ordered(t, v, api.Value{}, 1)
	check(t, s, "p.M", v, fault(api.ErrType), fault(api.ErrType))
}

func TestMostNest(t *testing.T) { // P6: MaxNest values in one another and one more
	s := load(t, small)
	for _, c := range []struct {
		v     api.Value
		right bool
	}{
		{nested(199, num(1)), true}, {nested(200, num(1)), false}, {nested(199, list()), true}, {nested(200, list()), false}, {nested(1000, list()), false}, {nested(50000, list()), false},
		{chain(199, 7, num(1)), true}, {chain(200, 7, num(1)), false}, {list(num(1), nested(198, num(1)), num(1)), true}, {list(num(1), nested(199, num(1)), num(1)), false},
		{api.Value{List: []api.Value{num(1)}, Fields: []api.Entry{at(3, nested(198, num(1)))}}, true}, {api.Value{List: []api.Value{num(1)}, Fields: []api.Entry{at(3, nested(199, num(1)))}}, false},
	} {
		if got := tree.Compare(c.v, api.Value{}) == 1; got != c.right {
			t.Errorf("P6: %s is taken as it is: %v", short(c.v), got)
		}
		if got := typed(t, s, "p.M", c.v); !c.right && !fault(api.ErrDepth).is(got.e, got.at) {
			t.Errorf("P6: Typed answers %v", got)
		} else if c.right && got.e != api.ErrType {
			t.Errorf("P6: Typed answers %v", got)
		}
	}
	// Through maps a 67th message stands 199 deep.
	inMaps := func(n int, v api.Value) api.Value {
		for range n {
			v = one(4, dict(kv("k", v)))
		}
		return v
	}
	where := fault(api.ErrDepth, times(64, 4, 0, 2)...)
	check(t, s, "p.M", inMaps(66, msg()), where, where)
	check(t, s, "p.M", inMaps(66, one(1, num(1))), where, where)
	check(t, s, "p.M", inMaps(66, one(3, list(num(1)))), fault(api.ErrDepth), fault(api.ErrDepth))
	check(t, s, "p.M", inMaps(67, msg()), fault(api.ErrDepth), fault(api.ErrDepth))
}

func TestLongAheadOfDeep(t *testing.T) { // P6: the values are counted however deep they lie, also where there are endlessly many
	s := load(t, small)
	branch := msg()
	for range 300 {
		branch = api.Value{Kind: api.VMessage, Fields: []api.Entry{at(7, branch), at(7, branch)}}
	}
	ring := make([]api.Value, 1)
	ring[0] = list(ring...)
	rings := make([]api.Entry, 5)
	for i := range rings {
		rings[i] = at(7, msg(rings...))
	}
	for _, v := range []api.Value{nested(250, many(api.MaxValues)), branch, ring[0], rings[3].Value} {
		check(t, s, "p.M", v, fault(api.ErrLong), fault(api.ErrLong))
		deep(t, v, 0)
		if !tree.Equal(v, api.Value{}) || tree.Compare(v, num(0)) != -1 {
			t.Errorf("P805: a tree that P6 refuses is not taken as nothing")
		}
	}
	check(t, s, "p.M", nested(250, many(1000)), fault(api.ErrDepth), fault(api.ErrDepth))
}
