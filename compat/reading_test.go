package compat_test

import (
	"fmt"
	"math"
	"slices"
	"strings"
	"testing"

	"sigil/api"
	"sigil/bind"
	"sigil/encode"
	"sigil/loose"
	"sigil/tree"
)

func num(v int) api.Value             { return api.Value{Kind: api.VNum, Num: v} }
func text(v string) api.Value         { return api.Value{Kind: api.VText, Text: v} }
func msg(l ...api.Entry) api.Value    { return api.Value{Kind: api.VMessage, Fields: l} }
func at(i int, v api.Value) api.Entry { return api.Entry{Number: i, Value: v} }
func list(l ...api.Value) api.Value   { return api.Value{Kind: api.VList, List: l} }
func dict(l ...api.Value) api.Value   { return api.Value{Kind: api.VMap, List: l} }
func pair(l ...api.Value) api.Value   { return api.Value{Kind: api.VPair, List: l} }

// short tells a tree in not too many letters.
func short(v api.Value) string { return some(fmt.Sprintf("%+v", v)) }

// reading is the reading of a tree, as P1408 says it.
func reading(q question, v api.Value) api.Value {
	out := msg()
	for _, e := range v.Fields {
		f, _ := q.old.s.Field(q.old.name, e.Number)
		g, none := q.now.s.Field(q.now.name, e.Number)
		if none != api.OK {
			continue
		}
		if w := readingOf(question{side{q.old.s, f.Of}, side{q.now.s, g.Of}}, e.Value); f.Card != api.CRepeated && g.Card == api.CRepeated {
			out.Fields = append(out.Fields, at(e.Number, list(w)))
		} else if !implicit(g) || w.Num != 0 || w.Text != "" {
			out.Fields = append(out.Fields, at(e.Number, w))
		}
	}
	return out
}

// readingOf is the reading of a field's value: of a list or map that of each value, of a pair the key as it is.
func readingOf(q question, v api.Value) api.Value {
	switch v.Kind {
	case api.VMessage:
		return reading(q, v)
	case api.VPair:
		return pair(v.List[0], readingOf(q, v.List[1]))
	}
	l := slices.Clone(v.List)
	for i := range l {
		l[i] = readingOf(q, l[i])
	}
	v.List = l
	return v
}

// implicit says whether the zero of a field is not there.
func implicit(f api.Field) bool {
	return f.Card == api.CSingle && f.Oneof == 0 && f.Type != api.TMessage
}

// isRead looks at P1408 for a tree, of a question that is fine.
func (q question) isRead(t *testing.T, v api.Value) {
	t.Helper()
	b, e := encode.New(q.old.s).Encode(q.old.name, v)
	if e != api.OK {
		t.Fatalf("Encode(%s): %v", short(v), e)
	}
	want := reading(q, v)
	got, _, e := loose.Decode(q.now.s, q.now.name, b)
	if e != api.OK || !tree.Equal(got, want) {
		t.Fatalf("P1408: %s is read as %s, %v, want %s", short(v), short(got), e, short(want))
	}
	if trail, e := tree.Normal(q.now.s, q.now.name, want); e != api.OK {
		t.Fatalf("P1408: the reading %s of %s: %v at %v", short(want), short(v), e, trail)
	}
}

// samples are values of a type, those at its bounds among them.
func samples(typ int) []api.Value {
	var l []api.Value
	nums := func(all ...int) []api.Value {
		for _, n := range all {
			l = append(l, num(n))
		}
		return l
	}
	switch typ {
	case api.TString:
		return []api.Value{text(""), text("a"), text("\x00"), text("é\U0010ffff")}
	case api.TBytes:
		return []api.Value{text(""), text("a"), text("\xff\x00")}
	case api.TMessage:
		return []api.Value{msg(), msg(at(2, num(0))), msg(at(2, num(7)))}
	case api.TBool:
		return nums(0, 1)
	case api.TInt32, api.TSint32, api.TSfixed32, api.TEnum:
		return nums(0, 1, -1, 63, -64, 64, 128, math.MinInt32, math.MaxInt32)
	case api.TUint32, api.TFixed32, api.TFloat:
		return nums(0, 1, 127, 128, 1<<31, math.MaxUint32)
	}
	return nums(0, 1, -1, 1<<31, 1<<32, math.MinInt, math.MaxInt, math.MinInt32, math.MaxUint32)
}

// declared is the text of a field of number 1 in the message M, with what it needs. A card of 0 is that of a member of a oneof.
func declared(f api.Field) string {
	typ := words[f.Type]
	switch f.Card {
	case 0:
		typ = "oneof o { " + typ + " a = 1; }"
	case api.CSingle:
		typ += " a = 1;"
	case api.COptional:
		typ = "optional " + typ + " a = 1;"
	case api.CRepeated:
		typ = "repeated " + typ + " a = 1;"
	case api.CMap:
		typ = fmt.Sprintf("map<%s, %s> a = 1;", words[f.Key], typ)
	}
	return "message M { " + typ + " optional int32 b = 2; } enum E { Z = 0; }"
}

func TestEveryChangeIsRead(t *testing.T) { // P1408: every change of a field that the rules let pass, with the values at the bounds of its type
	all := forms()
	for typ := api.TDouble; typ <= api.TMessage; typ++ {
		all = append(all, f(0, typ))
	}
	asCard := func(f api.Field) api.Field {
		f.Card = max(f.Card, api.CSingle)
		return f
	}
	count := 0
	for _, old := range all {
		for _, now := range all {
			if secondWidens(asCard(old), asCard(now)) != 0 {
				continue
			}
			count++
			q := of(t, declared(old), declared(now))
			q.breaks(t)
			for _, v := range trees(q.old.s, old) {
				q.isRead(t, v)
			}
		}
	}
	if count < 500 {
		t.Errorf("%d changes: too few", count)
	}
}

// trees are normal trees of the message M with a field of number 1.
func trees(s *bind.Schema, f api.Field) []api.Value {
	values := samples(f.Type)
	var l []api.Value
	switch f.Card {
	case api.CRepeated:
		l = append(l, msg(at(1, list(values...))), msg(at(1, list(values[0]))), msg())
	case api.CMap:
		d := dict()
		for i, k := range samples(f.Key) {
			d.List = append(d.List, pair(k, values[i%len(values)]))
		}
		l = append(l, msg(at(1, d)))
	default:
		for _, v := range values {
			l = append(l, msg(at(1, v)))
		}
	}
	for i, v := range l {
		l[i], _, _ = tree.Normalise(s, "M", v)
	}
	return l
}

// tree makes a message in which others lie so many levels deep.
func (m *maker) tree(s *bind.Schema, name string, levels int) api.Value {
	info, _ := s.Message(name)
	v := msg()
	for _, f := range info.Fields {
		if f.Type == api.TMessage && levels <= 1 || m.often(4) {
			continue
		}
		value := func() api.Value {
			if f.Type == api.TMessage {
				return m.tree(s, f.Of, levels-1)
			}
			return one(m, samples(f.Type)...)
		}
		x := value()
		if f.Card == api.CRepeated {
			x = list()
			for range m.Intn(4) {
				x.List = append(x.List, value())
			}
		} else if f.Card == api.CMap {
			x = dict()
			for range m.Intn(4) {
				x.List = append(x.List, pair(one(m, samples(f.Key)...), value()))
			}
		}
		v.Fields = append(v.Fields, at(f.Number, x))
	}
	m.Shuffle(len(v.Fields), func(i, k int) { v.Fields[i], v.Fields[k] = v.Fields[k], v.Fields[i] })
	return v
}

func TestWhatIsFineIsRead(t *testing.T) { // P1408: made schemas, and made trees where Check is fine
	fine, changed := 0, 0
	for seed := range int64(1200) {
		m := newMaker(seed)
		old := m.schema()
		now := m.next(old, one(m, 0, 0, 0, 20))
		for _, q := range questions(t, old.text("A"), now.text("B")) {
			if b, e := q.check(); e != api.OK || b.Rule != 0 {
				continue
			}
			for range 4 {
				v, _, e := tree.Normalise(q.old.s, q.old.name, m.tree(q.old.s, q.old.name, 1+m.Intn(4)))
				if e != api.OK {
					t.Fatal(e)
				}
				q.isRead(t, v)
				fine++
				if !tree.Equal(v, reading(q, v)) {
					changed++
				}
			}
		}
	}
	if fine < 5000 || changed < 2000 {
		t.Errorf("%d trees are read, %d of them as others: too few", fine, changed)
	}
}

func TestDeepIsRead(t *testing.T) { // P1408: 64 messages in one another, in lists and maps where there were none
	q := of(t, "message M { M m = 1; optional bool b = 2; map<bool, M> d = 3; repeated M l = 4; }", "message M { repeated M m = 1; bool b = 2; map<uint64, M> d = 3; repeated M l = 4; }")
	q.breaks(t)
	for _, number := range []int{1, 3, 4} {
		v := msg(at(2, num(0)))
		for range api.MaxDepth - 1 {
			switch number {
			case 1:
				v = msg(at(1, v))
			case 3:
				v = msg(at(3, dict(pair(num(1), v))))
			default:
				v = msg(at(4, list(v)))
			}
		}
		q.isRead(t, v)
	}
}

func TestLargerIsRead(t *testing.T) { // P1408: where the reading is larger than a message may be: ErrSize, and nothing else
	q := of(t, "message M { string s = 1; int32 a = 2; }", "message M { bytes s = 1; repeated int32 a = 2; }")
	q.breaks(t)
	for short, want := range map[int]api.Errno{0: api.ErrSize, 1: api.OK} {
		const around = 1 + 3 + 2 // a tag, a length, the number with its tag
		v := msg(at(1, text(strings.Repeat("x", api.MaxMessage-around-short))), at(2, num(1)))
		b, e := encode.New(q.old.s).Encode("M", v)
		if e != api.OK || len(b) != api.MaxMessage-short {
			t.Fatalf("Encode: %d bytes, %v", len(b), e)
		}
		if _, _, e := loose.Decode(q.now.s, "M", b); e != want {
			t.Errorf("P1408: a reading of %d bytes: %v, want %v", len(b)+1, e, want)
		}
	}
}
