package project_test

import (
	"testing"

	"sigil/api"
	"sigil/encode"
	"sigil/tree"
)

// Two types with a place for each reason of a refusal.
const (
	oldErrors = "message M { int32 a = 1; repeated int32 b = 2; M m = 3; string gone = 4; oneof o { int32 c = 5; M d = 6; } map<int32, M> e = 7; repeated M l = 8; bytes f = 9; }"
	newErrors = "message M { repeated int64 a = 1; repeated int64 b = 2; M m = 3; reserved 4; int32 c = 5; repeated M d = 6; map<int64, M> e = 7; repeated M l = 8; bytes f = 9; }"
)

// crowd is a normal message of the type on which more values hang than may be: most of them share their memory.
func crowd() api.Value {
	row := make([]api.Value, 2048)
	for i := range row {
		row[i] = msg()
	}
	rows := make([]api.Value, 2048)
	for i := range rows {
		rows[i] = one(8, list(row...))
	}
	return one(8, list(rows...))
}

// reason is something for which a tree is refused: the entry that has it.
type reason struct {
	e api.Errno
	v api.Entry
}

// reasons are the reasons in the order in which they are told; no entry's number falls.
func reasons() []reason {
	return []reason{
		{api.ErrLong, at(8, crowd().Fields[0].Value)},
		{api.ErrDepth, at(7, nested(199, num(0)))},
		{api.ErrType, at(2, list(text("")))},
		{api.ErrNormal, at(1, num(0))},
		{api.ErrDepth, at(3, chain(63, 3, msg()))},
		{api.ErrSize, at(9, big(api.MaxMessage))},
	}
}

func TestOrderOfErrors(t *testing.T) { // P1502, P1503, P6, P7: each error alone, two at a time, all at once: the first of the order, wherever it lies
	w := of(t, oldErrors, newErrors)
	p := w.plan(t)
	put := func(l ...reason) api.Value {
		v := msg()
		for number := 1; number <= 9; number++ {
			for _, r := range l {
				if r.v.Number == number {
					v.Fields = append(v.Fields, r.v)
				}
			}
		}
		return v
	}
	all := reasons()
	for i, r := range all {
		refuses(t, p, put(r), r.e)
		refuses(t, p, put(all[i:]...), r.e)
		for _, behind := range all[i+1:] {
			refuses(t, p, put(r, behind), r.e)
		}
	}
}

func TestWrongTrees(t *testing.T) { // P1502: wrong trees, at the top and within, are refused as tree.Size does
	w := of(t, oldErrors, newErrors)
	p := w.plan(t)
	for _, c := range []struct {
		v    api.Value
		want api.Errno
	}{
		{api.Value{}, api.ErrType}, {num(0), api.ErrType}, {text(""), api.ErrType}, {list(), api.ErrType}, {dict(), api.ErrType}, {pair(), api.ErrType}, {api.Value{Kind: 7}, api.ErrType}, {api.Value{Kind: -1}, api.ErrType},
		{api.Value{Kind: api.VMessage, Num: 1}, api.ErrType}, {api.Value{Kind: api.VMessage, Text: "x"}, api.ErrType}, {api.Value{Kind: api.VMessage, List: []api.Value{num(1)}}, api.ErrType},
		{one(10, num(1)), api.ErrType}, {one(0, num(1)), api.ErrType}, {one(-1, num(1)), api.ErrType}, {one(1, list(num(1))), api.ErrType}, {one(1, num(1<<31)), api.ErrType}, {one(4, text("\xff")), api.ErrType}, {one(7, dict(pair(num(1)))), api.ErrType}, {one(7, dict(pair(num(1<<31), msg()))), api.ErrType},
		{one(2, list()), api.ErrNormal}, {one(7, dict()), api.ErrNormal}, {one(4, text("")), api.ErrNormal}, {msg(at(5, num(0)), at(6, msg())), api.ErrNormal}, {msg(at(2, list(num(1))), at(1, num(1))), api.ErrNormal}, {msg(at(1, num(1)), at(1, num(1))), api.ErrNormal}, {one(7, dict(pair(num(2), msg()), pair(num(1), msg()))), api.ErrNormal}, {one(7, dict(pair(num(1), msg()), pair(num(1), msg()))), api.ErrNormal},
		{chain(64, 3, msg()), api.ErrDepth}, {chain(64, 6, msg()), api.ErrDepth}, {chain(199, 3, msg()), api.ErrDepth}, {chain(200, 3, msg()), api.ErrDepth}, {chain(199, 3, num(0)), api.ErrType}, {chain(200, 3, num(0)), api.ErrDepth}, {nested(199, msg()), api.ErrType}, {nested(200, msg()), api.ErrDepth}, {nested(50000, msg()), api.ErrDepth},
		{one(9, big(api.MaxMessage-3)), api.ErrSize}, {crowd(), api.ErrLong},
	} {
		refuses(t, p, c.v, c.want)
		if _, _, e := tree.Size(w.from, w.wrote, c.v); e != c.want {
			t.Errorf("tree.Size(%s) = %v, want %v", short(c.v), e, c.want)
		}
		within := one(3, one(6, one(8, list(msg(), one(7, dict(pair(num(0), c.v)))))))
		if _, _, e := tree.Size(w.from, w.wrote, within); e != api.OK {
			refuses(t, p, within, e)
		} else {
			t.Errorf("%s is right", short(within))
		}
	}
	circle := make([]api.Value, 1)
	circle[0] = list(circle...)
	refuses(t, p, circle[0], api.ErrLong)
	fields := make([]api.Entry, 1)
	fields[0] = at(3, api.Value{Kind: api.VMessage, Fields: fields})
	refuses(t, p, fields[0].Value, api.ErrLong)
}

func TestTypedByOld(t *testing.T) { // P1502: a tree is looked at by the old type alone, also where the new one has another kind of field, or none
	w := of(t, oldErrors, newErrors)
	p := w.plan(t)
	refuses(t, p, one(1, list(num(1))), api.ErrType)               // as the new type has it
	refuses(t, p, one(2, list(num(1<<40))), api.ErrType)           // an int64
	refuses(t, p, msg(at(5, num(1)), at(6, msg())), api.ErrNormal) // the new type has no oneof
	refuses(t, p, one(4, num(1)), api.ErrType)                     // what is left out must be right too
	refuses(t, p, one(4, text("\xff")), api.ErrType)
	refuses(t, p, one(4, text("")), api.ErrNormal)
	refuses(t, p, one(4, big(api.MaxMessage)), api.ErrSize)
	w.becomes(t, one(4, text("x")), msg(), "4")
	w.becomes(t, one(5, num(0)), msg(), "5")
	// What the new type alone has is no field of the old one.
	q := of(t, "message M { }", "message M { int32 a = 1; }")
	refuses(t, q.plan(t), one(1, num(1)), api.ErrType)
}

func TestMostValues(t *testing.T) { // P6: MaxValues values and one more
	p := of(t, oldErrors, newErrors).plan(t)
	l := make([]api.Value, api.MaxValues-1)
	for i := range l {
		l[i] = num(1)
	}
	refuses(t, p, one(2, list(l...)), api.ErrLong)
	refuses(t, p, one(2, list(l[1:]...)), api.ErrSize)
}

// sizes are the sizes of a tree and of its reading.
func (w way) sizes(t *testing.T, v api.Value) (int, int) {
	t.Helper()
	before, e := encode.New(w.from).Size(w.wrote, v)
	if e != api.OK {
		t.Fatal(e)
	}
	got, e := w.plan(t).Do(v)
	if e != api.OK {
		t.Fatalf("P1502: Do(%s): %v", short(v), e)
	}
	after, e := encode.New(w.to).Size(w.reads, got)
	if e != api.OK {
		t.Fatal(e)
	}
	return before, after
}

func TestMostSize(t *testing.T) { // P1502, P1505: readings of MaxMessage canonical bytes and of one more, where the old tree has fewer; and where it has as many
	for name, c := range map[string]struct {
		old, now string
		make     func(n int) api.Value
		more     int // how many bytes more the reading has than the tree
	}{
		"a number into a list":    {"message M { int32 a = 1; string b = 2; }", "message M { repeated int32 a = 1; bytes b = 2; }", func(n int) api.Value { return msg(at(1, num(1)), at(2, big(n))) }, 1},
		"three numbers":           {"message M { int32 a = 1; string b = 2; optional bool c = 3; double d = 4; }", "message M { repeated int32 a = 1; bytes b = 2; repeated bool c = 3; repeated double d = 4; }", func(n int) api.Value { return msg(at(1, num(1)), at(2, big(n)), at(3, num(0)), at(4, num(1))) }, 3},
		"deep below":              {"message M { int32 a = 1; string b = 2; M m = 3; }", "message M { repeated int32 a = 1; bytes b = 2; repeated M m = 3; }", func(n int) api.Value { return chain(60, 3, msg(at(1, num(1)), at(2, big(n)))) }, 1},
		"a length that is longer": {"message M { int32 a = 1; string b = 2; M m = 3; }", "message M { repeated int32 a = 1; bytes b = 2; M m = 3; }", func(n int) api.Value { return msg(at(2, big(n)), at(3, msg(at(1, num(1)), at(2, big(123))))) }, 2},
		"in a map": {"message M { int32 a = 1; bytes b = 2; map<int32, M> d = 4; }", "message M { repeated int32 a = 1; bytes b = 2; map<int64, M> d = 4; }", func(n int) api.Value {
			return one(4, dict(pair(num(1), msg(at(1, num(1)))), pair(num(2), one(2, big(n)))))
		}, 1},
		"more in than out": {"message M { int32 a = 1; bytes b = 2; bool c = 3; }", "message M { repeated int32 a = 1; bytes b = 2; reserved 3; }", func(n int) api.Value { return msg(at(1, num(1)), at(2, big(n)), at(3, num(1))) }, -1},
		"with a loss": {"message M { optional int32 z = 1; int32 a = 2; bytes b = 3; double c = 4; bool d = 5; M m = 6; }", "message M { int32 z = 1; repeated int32 a = 2; bytes b = 3; repeated double c = 4; repeated bool d = 5; M m = 6; }", func(n int) api.Value {
			return msg(at(1, num(0)), at(2, num(1)), at(3, big(n)), at(4, num(1)), at(5, num(1)), at(6, msg(at(2, num(1)), at(5, num(1)))))
		}, 3},
		"texts into lists":         {"message M { string a = 1; bytes b = 2; M c = 3; }", "message M { repeated string a = 1; repeated bytes b = 2; repeated M c = 3; }", func(n int) api.Value { return msg(at(1, text("x")), at(2, big(n)), at(3, one(1, text("y")))) }, 0},
		"wider numbers and keys":   {"message M { int32 a = 1; bytes b = 2; map<bool, bool> d = 4; }", "message M { int64 a = 1; bytes b = 2; map<uint64, int64> d = 4; }", func(n int) api.Value { return msg(at(1, num(-1)), at(2, big(n)), at(4, dict(pair(num(1), num(1))))) }, 0},
		"as much gone as comes in": {"message M { int32 a = 1; bytes b = 2; optional M c = 3; int32 d = 4; }", "message M { repeated int32 a = 1; bytes b = 2; repeated M c = 3; repeated int32 d = 4; }", func(n int) api.Value { return msg(at(1, num(1)), at(2, big(n)), at(3, msg()), at(4, num(1))) }, 2},
	} {
		w := of(t, c.old, c.now)
		before, after := w.sizes(t, c.make(1<<19))
		if after-before != c.more {
			t.Errorf("%s: the reading has %d bytes more, want %d", name, after-before, c.more)
		}
		most := 1<<19 + api.MaxMessage - max(before, after)
		p := w.plan(t)
		for n := most - 3; n <= most; n++ {
			w.judged(t, p, c.make(n))
		}
		if _, after := w.sizes(t, c.make(most)); c.more >= 0 && after != api.MaxMessage {
			t.Errorf("%s: a reading of %d bytes", name, after)
		}
		for n := most + 1; n <= most+max(0, c.more)+2; n++ {
			refuses(t, p, c.make(n), api.ErrSize)
			if n <= most+c.more { // the old tree is not too large
				if _, e := w.decoded(t, c.make(n)); e != api.ErrSize {
					t.Errorf("P1505: %s: %v is read, want ErrSize", name, e)
				}
			}
		}
	}
}

func TestManyIntoLists(t *testing.T) { // P1502: a tree of many small messages, of which each reading is larger
	w := of(t, "message M { repeated M l = 1; optional bool b = 2; }", "message M { repeated M l = 1; repeated bool b = 2; }")
	made := func(n int) api.Value {
		l := make([]api.Value, n)
		for i := range l {
			l[i] = one(2, num(i%2))
		}
		return one(1, list(l...))
	}
	const most = api.MaxMessage / 5 // two bytes ahead of each message, three in its reading
	p := w.plan(t)
	got, e := p.Do(made(most))
	if e != api.OK || len(got.Fields[0].Value.List) != most || !tree.Equal(got.Fields[0].Value.List[most-1], one(2, list(num((most-1)%2)))) {
		t.Errorf("P1502: %d messages: %v", most, e)
	}
	if l, e := p.Lost(made(most)); e != api.OK || len(l) > 0 {
		t.Errorf("P1503: %d trails, %v", len(l), e)
	}
	refuses(t, p, made(most+1), api.ErrSize)
	refuses(t, p, made(api.MaxMessage/4), api.ErrSize)
	refuses(t, p, made(api.MaxMessage/4+1), api.ErrSize)
}
