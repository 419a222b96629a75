package compat_test

import (
	"fmt"
	"math/rand"
	"slices"
	"strings"
	"testing"

	"sigil/api"
)

// made is a made schema: of its fields the messages are told by their places.
type made struct{ messages []madeMessage }

type madeMessage struct {
	fields []madeField
	gone   []int
}

type madeField struct {
	number, card, typ, key int
	of                     int // of a message: its place
	oneof                  int // 0: none
}

// text is the text of the schema; a letter begins its names.
func (s made) text(letter string) string {
	var b strings.Builder
	fmt.Fprintf(&b, "enum %sE { Z = 0; A = 1; }", letter)
	for i, m := range s.messages {
		fmt.Fprintf(&b, " message %s%d {", letter, i)
		groups := map[int]string{}
		for _, f := range m.fields {
			if f.oneof > 0 {
				groups[f.oneof] += f.text(letter)
			} else {
				b.WriteString(f.text(letter))
			}
		}
		for k := range 100 {
			if groups[k] != "" {
				fmt.Fprintf(&b, " oneof o%d {%s }", k, groups[k])
			}
		}
		for _, n := range m.gone {
			fmt.Fprintf(&b, " reserved %d;", n)
		}
		b.WriteString(" }")
	}
	return b.String()
}

func (f madeField) text(letter string) string {
	typ := words[f.typ]
	switch f.typ {
	case api.TEnum:
		typ = letter + "E"
	case api.TMessage:
		typ = fmt.Sprint(letter, f.of)
	}
	switch f.card {
	case api.COptional:
		typ = "optional " + typ
	case api.CRepeated:
		typ = "repeated " + typ
	case api.CMap:
		typ = fmt.Sprintf("map<%s, %s>", words[f.key], typ)
	}
	return fmt.Sprintf(" %s f%d = %d;", typ, f.number, f.number)
}

// maker makes schemas, what becomes of them, and trees.
type maker struct{ *rand.Rand }

func newMaker(seed int64) *maker { return &maker{rand.New(rand.NewSource(seed))} }

// one is one of many.
func one[T any](m *maker, l ...T) T { return l[m.Intn(len(l))] }

// often says yes once in so many times.
func (m *maker) often(n int) bool { return m.Intn(n) == 0 }

// schema makes a schema of few messages.
func (m *maker) schema() made {
	s := made{make([]madeMessage, 1+m.Intn(5))}
	for i := range s.messages {
		for _, n := range m.Perm(14)[:m.Intn(11)] {
			s.messages[i].fields = append(s.messages[i].fields, m.field(number(n), len(s.messages)))
		}
	}
	return s
}

// number is a field's number of few.
func number(n int) int {
	if n < 12 {
		return n + 1
	}
	return []int{1000, api.MaxNumber}[n-12]
}

// field makes a field of a message that lies among so many.
func (m *maker) field(number, messages int) madeField {
	f := madeField{number: number, card: 1 + m.Intn(4), typ: 1 + m.Intn(17)}
	if m.often(3) {
		f.typ = one(m, api.TInt32, api.TBool, api.TEnum, api.TString)
	}
	if m.often(3) {
		f.typ = api.TMessage
	}
	if f.typ == api.TMessage {
		f.of = m.Intn(messages)
	}
	if f.card == api.CMap {
		f.key = one(m, keyTypes...)
	}
	if f.card == api.CSingle {
		f.oneof = one(m, 0, 1, 1, 2, 3)
	}
	return f
}

// next makes what becomes of a schema by changes that the rules let pass; once in so many fields (if that is not 0) by one that they may not.
func (m *maker) next(old made, wild int) made {
	var now made
	from := []int{} // of each message the one of which it is made
	for i := range old.messages {
		from = append(from, i)
	}
	for range m.Intn(3) {
		from = append(from, m.Intn(len(old.messages)))
	}
	for _, i := range from {
		now.messages = append(now.messages, m.nextMessage(old.messages[i], len(old.messages), wild))
	}
	for _, in := range now.messages {
		for k, f := range in.fields {
			if f.typ == api.TMessage {
				like := slices.DeleteFunc(m.Perm(len(from)), func(i int) bool { return from[i] != f.of })
				in.fields[k].of = like[0]
			}
			if wild > 0 && f.typ == api.TMessage && m.often(wild) {
				in.fields[k].of = m.Intn(len(from))
			}
		}
	}
	return now
}

// nextMessage makes what becomes of a message.
func (m *maker) nextMessage(old madeMessage, messages, wild int) madeMessage {
	var now madeMessage
	fresh := 50 // oneofs that no other field of the old type is in
	used := map[int]int{}
	for _, f := range old.fields {
		used[f.number]++
		switch {
		case wild > 0 && m.often(2*wild):
			continue
		case m.often(8):
			now.gone = append(now.gone, f.number)
			continue
		case wild > 0 && m.often(wild):
			now.fields = append(now.fields, m.field(f.number, messages))
			continue
		}
		f.typ = m.widened(f.typ, listedTypes)
		f.key = m.widened(f.key, listedKeys)
		if f.card <= api.COptional && m.often(2) {
			was := f.oneof
			f.card, f.oneof = one(m, api.CSingle, api.COptional, api.CRepeated), 0
			if f.card == api.CSingle && m.often(2) {
				fresh++
				f.oneof = fresh
			} else if f.card == api.CSingle && m.often(2) {
				f.oneof = was
			}
		}
		now.fields = append(now.fields, f)
	}
	for _, n := range m.Perm(14)[:m.Intn(4)] {
		if used[number(n)] == 0 {
			f := m.field(number(n), messages)
			if f.oneof > 0 {
				f.oneof = one(m, 0, 1, 2, 51, 52)
			}
			now.fields = append(now.fields, f)
		}
	}
	m.Shuffle(len(now.fields), func(i, k int) { now.fields[i], now.fields[k] = now.fields[k], now.fields[i] })
	return now
}

// widened is what a type may become.
func (m *maker) widened(typ int, may map[int][]int) int {
	if l := may[typ]; len(l) > 0 && m.often(2) {
		return one(m, l...)
	}
	return typ
}

// secondPairs is a second reading of P1403: of each pair the best path (the shortest, then the least one), bettered till nothing can be; then the pairs by these.
func secondPairs(q question) []api.Pair {
	type met struct{ old, now string }
	best := map[met][]int{{q.old.name, q.now.name}: {}}
	better := func(a, b []int) bool {
		return len(a) < len(b) || len(a) == len(b) && slices.Compare(a, b) < 0
	}
	for again := true; again; {
		again = false
		var l []met
		for p := range best {
			l = append(l, p)
		}
		for _, p := range l {
			m, _ := q.old.s.Message(p.old)
			for _, f := range m.Fields {
				g, e := q.now.s.Field(p.now, f.Number)
				if e != api.OK || f.Type != api.TMessage || secondWidens(f, g) != 0 {
					continue
				}
				path := append(slices.Clone(best[p]), f.Number)
				if was, ok := best[met{f.Of, g.Of}]; !ok || better(path, was) {
					best[met{f.Of, g.Of}] = path
					again = true
				}
			}
		}
	}
	var l []api.Pair
	for p, path := range best {
		l = append(l, api.Pair{Old: p.old, New: p.now, Path: path})
	}
	slices.SortFunc(l, func(a, b api.Pair) int {
		if better(a.Path, b.Path) {
			return -1
		}
		return 1
	})
	return l
}

// secondBreaks is a second reading of P1404.
func secondBreaks(q question) []api.Break {
	var l []api.Break
	for _, p := range secondPairs(q) {
		tell := func(rule, number int) {
			l = append(l, api.Break{Rule: rule, Path: append(slices.Clone(p.Path), number), Old: p.Old, New: p.New})
		}
		old, _ := q.old.s.Message(p.Old)
		now, _ := q.now.s.Message(p.New)
		for _, f := range old.Fields {
			g, e := q.now.s.Field(p.New, f.Number)
			kept := slices.ContainsFunc(now.Reserved, func(r api.Range) bool { return r.From <= f.Number && f.Number <= r.To })
			switch {
			case e != api.OK && !kept:
				tell(api.BGone, f.Number)
			case e == api.OK && secondWidens(f, g) != 0:
				tell(secondWidens(f, g), f.Number)
			}
		}
		for place := 1; place <= len(now.Oneofs); place++ {
			of := map[int]int{} // how many members each oneof of the old type gives; 0: none of them
			count, least := 0, 0
			for _, f := range slices.Backward(old.Fields) {
				if g, e := q.now.s.Field(p.New, f.Number); e == api.OK && g.Oneof == place {
					of[f.Oneof]++
					count++
					least = f.Number
				}
			}
			if count >= 2 && (len(of) > 1 || of[0] > 0) {
				tell(api.BOneof, least)
			}
		}
	}
	return l
}

// judged looks whether the three calls answer what a second reading says; it tells the breaks.
func (q question) judged(t *testing.T) []api.Break {
	t.Helper()
	want := secondBreaks(q)
	all, e := q.all()
	if len(want) > api.MaxBreaks {
		if e != api.ErrBreaks || len(all) > 0 {
			t.Fatalf("P1405: All = %d breaks, %v, want ErrBreaks", len(all), e)
		}
	} else if e != api.OK || toldAll(all) != toldAll(want) {
		t.Fatalf("P1404: All = %q, %v, want %q", toldAll(all), e, toldAll(want))
	}
	first := api.Break{}
	if len(want) > 0 {
		first = want[0]
	}
	if b, e := q.check(); e != api.OK || told(b) != told(first) {
		t.Fatalf("P1405: Check = %q, %v, want %q", told(b), e, told(first))
	}
	if l, e := q.pairs(); e != api.OK || toldPairs(l) != toldPairs(secondPairs(q)) {
		t.Fatalf("P1403: Pairs = %q, %v, want %q", toldPairs(l), e, toldPairs(secondPairs(q)))
	}
	return want
}

// questions are all questions between the types of two schemas.
func questions(t testing.TB, old, now string) []question {
	a, b := load(t, old), load(t, now)
	var l []question
	for _, wrote := range a.Messages() {
		for _, reads := range b.Messages() {
			l = append(l, question{side{a, wrote}, side{b, reads}})
		}
	}
	return l
}

func TestMade(t *testing.T) { // P1402 to P1405: what a second reading of the chapter says of made schemas
	seen := map[int]int{}
	deep, fine, many := 0, 0, 0
	for seed := range int64(4000) {
		m := newMaker(seed)
		old := m.schema()
		now := m.next(old, one(m, 0, 0, 3, 10, 30))
		if m.often(10) {
			now = m.schema()
		}
		for _, q := range questions(t, old.text("A"), now.text("B")) {
			l := q.judged(t)
			for _, b := range l {
				seen[b.Rule]++
				if len(b.Path) > 3 {
					deep++
				}
			}
			p, _ := q.pairs()
			if len(l) == 0 && len(p) > 1 {
				fine++
			}
			if len(p) > 6 {
				many++
			}
		}
		if t.Failed() {
			t.Fatalf("seed %d: %s, %s", seed, old.text("A"), now.text("B"))
		}
	}
	for rule := api.BGone; rule <= api.BMessage; rule++ {
		if seen[rule] < 200 {
			t.Errorf("the rule %d is broken %d times: too few", rule, seen[rule])
		}
	}
	if deep < 500 || fine < 500 || many < 200 {
		t.Errorf("%d breaks lie deep, %d questions are fine, %d have many pairs: too few", deep, fine, many)
	}
}

// web makes a schema of messages that hold one another in many ways.
func (m *maker) web() made {
	s := made{make([]madeMessage, 1+m.Intn(8))}
	for i := range s.messages {
		for n := 1; n <= 4; n++ {
			f := madeField{number: n, card: one(m, api.CSingle, api.CSingle, api.COptional, api.CRepeated), typ: api.TMessage, of: m.Intn(len(s.messages))}
			if !m.often(3) {
				s.messages[i].fields = append(s.messages[i].fields, f)
			}
		}
	}
	return s
}

func TestMadeWebs(t *testing.T) { // P1403: schemas of messages alone, in which pairs are found by many ways
	many, far := 0, 0
	for seed := range int64(3000) {
		m := newMaker(seed)
		old, now := m.web(), m.web()
		q := question{side{load(t, old.text("A")), "A0"}, side{load(t, now.text("B")), "B0"}}
		q.judged(t)
		l, _ := q.pairs()
		if len(l) > 15 {
			many++
		}
		if len(l[len(l)-1].Path) > 4 {
			far++
		}
	}
	if many < 200 || far < 100 {
		t.Errorf("%d webs have many pairs, %d long paths: too few", many, far)
	}
}
