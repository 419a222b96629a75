package view_test

import (
	"slices"
	"testing"

	"sigil/api"
	"sigil/path"
)

// anyText takes every record of kind 2 for one of a field.
func anyText(number int) (api.Field, bool) {
	return api.Field{Number: number, Card: api.COptional, Type: api.TBytes}, true
}

// spare overwrites the content of records of kind 2 of a piece but for those of a number.
func (m *maker) spare(piece []byte, depth, number int) {
	l, _, _ := split(piece, depth, anyText)
	for _, p := range l {
		if p.number != number {
			m.Read(p.text)
		}
	}
}

// spareMost overwrites the contents of some records but for some that stay.
func (m *maker) spareMost(l []part, stay ...part) {
	for _, p := range l {
		if p.kind == 2 && !slices.ContainsFunc(stay, func(s part) bool { return len(p.text) == 0 || len(s.text) > 0 && &s.text[0] == &p.text[0] }) {
			m.Read(p.text)
		}
	}
}

// blinden overwrites, in the bytes of a message, the contents of records into which no question goes in at the end of steps.
func (m *maker) blinden(q second, x thing, steps []api.Step) {
	if len(steps) == 0 {
		return
	}
	f, _ := q.s.Field(x.field.Of, steps[0].Number)
	next, _, e := q.step(x, steps[0])
	for _, piece := range x.parts {
		m.spare(piece.text, x.depth+1, f.Number)
		if f.Card != api.CMap && f.Card != api.CRepeated && e == api.OK {
			l, _, _ := split(piece.text, x.depth+1, ofMessage(q.s, x.field.Of))
			l = slices.DeleteFunc(l, func(p part) bool { return p.number != f.Number })
			m.spareMost(l, next.counting()...)
		}
	}
	if e != api.OK || len(steps) == 1 {
		return
	}
	switch rest := steps[1:]; rest[0].Kind {
	case api.SField:
		m.blinden(q, next, rest)
	case api.SIndex:
		m.blindenList(q, next, rest)
	case api.SKey:
		m.blindenMap(q, next, rest)
	}
}

// counting are the records that count of what stands there: all pieces of a message, the last record of a text.
func (x thing) counting() []part {
	if x.field.Type == api.TMessage || len(x.parts) == 0 {
		return x.parts
	}
	return x.parts[len(x.parts)-1:]
}

func (m *maker) blindenList(q second, x thing, steps []api.Step) {
	in, there, _ := q.step(x, steps[0])
	if kindOf(x.field.Type) == 2 {
		m.spareMost(x.parts, in.parts...)
	}
	if there && x.field.Type == api.TMessage {
		m.blinden(q, in, steps[1:])
	}
}

func (m *maker) blindenMap(q second, x thing, steps []api.Step) {
	in, there, e := q.step(x, steps[0])
	if e != api.OK {
		return
	}
	for _, p := range x.parts {
		l, _, _ := split(p.text, x.depth, anyText)
		var keys []part
		for _, k := range l {
			if k.number == 1 && x.field.Key == api.TString {
				keys = append(keys, k)
			}
		}
		m.spareMost(l, slices.Concat(keys[max(0, len(keys)-1):], in.counting())...)
	}
	if there && x.field.Type == api.TMessage {
		m.blinden(q, in, steps[1:])
	}
}

func TestBlind(t *testing.T) { // P2110: what lies in the contents of records on which no question goes in changes no answer
	t.Parallel()
	q := ofWide()
	changed := 0
	for seed := range int64(1500) {
		for _, name := range q.s.Messages() {
			m := newMaker(seed)
			m.rare = pick(m, 0, 0, 50)
			b := m.message(name, 1+m.Intn(5))
			g := open(t, q.s, name, b)
			for range 6 {
				steps := m.steps(q, name, b)
				p, e := path.Print(q.s, name, steps)
				if e != api.OK {
					continue
				}
				other := slices.Clone(b)
				m.blinden(q, whole(name, other), steps)
				if !slices.Equal(b, other) {
					changed++
				}
				if got, want := tellsAll(open(t, q.s, name, other), p), tellsAll(g, p); len(steps) > 0 && got != want {
					t.Fatalf("P2110: at %.100q of %s: %.300s, want %.300s as of %s", p, some(other), got, want, some(b))
				}
			}
		}
	}
	if changed < 10000 {
		t.Errorf("%d messages were changed: too few", changed)
	}
}

func TestBlindOneByOne(t *testing.T) { // P2110: the same of each sort of record
	s := wideSchema()
	for _, c := range []struct {
		p   string
		lay func(x []byte) []byte // x: on which no question goes in
	}{
		{"s3", func(x []byte) []byte { return rows(row("18 05"), record(api.TMessage, x), record(unknown, x)) }},
		{"s3", func(x []byte) []byte { return rows(tag(unknown, 3), record(3, x), tag(unknown, 4), row("18 05")) }}, // in a group
		{"s3", func(x []byte) []byte { return rows(record(3, x), row("18 05"), record(repeated+3, x)) }},            // of the wrong kind, a block
		{"tail", func(x []byte) []byte { return rows(record(tail, x), record(tail, []byte("a"))) }},                 // replaced
		{"x3", func(x []byte) []byte {
			return rows(record(member+api.TString, x), tag(member+3, 0), row("05"), record(ofV, x))
		}},
		{"x14", func(x []byte) []byte { return rows(record(member+api.TMessage, x), record(member+api.TString)) }},
		{"x17", func(x []byte) []byte {
			return rows(record(member+api.TMessage, x), record(member+api.TBytes, x), record(member+api.TMessage, row("18 05")))
		}},
		{"x17.s3", func(x []byte) []byte {
			return rows(record(member+api.TMessage, x), record(member+api.TBytes, x), record(member+api.TMessage, row("18 05"), record(api.TString, x)))
		}},
		{"s17.s3", func(x []byte) []byte {
			return record(api.TMessage, row("18 05"), record(api.TMessage, x), record(repeated+14, x), record(mapped+3, x))
		}},
		{"r17[1]", func(x []byte) []byte {
			return rows(record(repeated+17, x), record(repeated+17, row("18 05")), record(repeated+17, x))
		}},
		{"r17[1].s3", func(x []byte) []byte {
			return rows(record(repeated+17, x), record(repeated+17, row("18 05"), record(tail, x)), record(repeated+17, x))
		}},
		{"r14[0]", func(x []byte) []byte { return rows(record(repeated+14, []byte("a")), record(repeated+14, x)) }},
		{`m17["k"]`, func(x []byte) []byte {
			return rows(record(mapped+17, row("0a 01 6b"), record(2, x)), record(mapped+17, record(2, x)), record(mapped+17, record(1, x), row("0a 01 6b"), record(2, row("18 05")), record(3, x)))
		}},
		{`m17["k"].s3`, func(x []byte) []byte {
			return rows(record(mapped+17, row("0a 01 6b"), record(2, row("18 05"), record(14, x)), record(2, record(17, x))), record(mapped+17, row("0a 01 6c"), record(2, x)))
		}},
		{`m14["k"]`, func(x []byte) []byte { return record(mapped+14, record(2, x), record(2, []byte("a")), row("0a 01 6b")) }},
		{`m3["k"]`, func(x []byte) []byte { return record(mapped+3, record(2, x), row("10 05"), row("0a 01 6b")) }},
		{"lv", func(x []byte) []byte { return rows(record(ofV, x), record(listV), record(ofU, x)) }},
	} {
		right := c.lay([]byte("abc"))
		want := tellsAll(open(t, s, "w.W", right), c.p)
		for _, x := range [][]byte{row("00 00 00"), row("ff ff ff"), row("0c 0b 08"), row("12 05 61"), row("18 80 80")} {
			if got := tellsAll(open(t, s, "w.W", c.lay(x)), c.p); got != want {
				t.Errorf("P2110: at %q of %s: %.300s, want %.300s", c.p, some(c.lay(x)), got, want)
			}
		}
		if has, e := open(t, s, "w.W", right).Has(c.p); !has || e != api.OK {
			t.Errorf("P2110: of %s: Has(%q) = %v, %v", some(right), c.p, has, e)
		}
	}
	// What is asked of the end of the path is not what Get reads: the others go in no further.
	for _, c := range []struct {
		p   string
		lay func(x []byte) []byte
	}{
		{"s14", func(x []byte) []byte { return record(api.TString, x) }}, {"x14", func(x []byte) []byte { return record(member+api.TString, x) }}, {"s17", func(x []byte) []byte { return record(api.TMessage, x) }}, {"r14", func(x []byte) []byte { return record(repeated+14, x) }}, {"r14[0]", func(x []byte) []byte { return record(repeated+14, x) }}, {"lv", func(x []byte) []byte { return record(listV, x) }}, {"lv[0]", func(x []byte) []byte { return record(listV, x) }}, {"m17", func(x []byte) []byte { return record(mapped+17, record(2, x)) }}, {`m17[""]`, func(x []byte) []byte { return record(mapped+17, record(2, x)) }}, {`m14[""]`, func(x []byte) []byte { return record(mapped+14, record(2, x)) }},
	} {
		for _, x := range [][]byte{[]byte("abc"), row("00 00 00"), row("ff ff ff"), row("0c 0b 08")} {
			v := open(t, s, "w.W", c.lay(x))
			if has, e := v.Has(c.p); !has || e != api.OK {
				t.Errorf("P2110: of %s: Has(%q) = %v, %v", some(v.b), c.p, has, e)
			}
			if b, ok, e := v.Bytes(c.p); e == api.OK && (!ok || string(b) != string(x)) {
				t.Errorf("P2110: of %s: Bytes(%q) = %s, %v", some(v.b), c.p, some(b), ok)
			}
			if n, e := v.Len(c.p); e == api.OK && n != 1 {
				t.Errorf("P2110: of %s: Len(%q) = %d", some(v.b), c.p, n)
			}
		}
	}
}
