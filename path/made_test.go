package path_test

import (
	"fmt"
	"math"
	"math/rand"
	"slices"
	"strings"
	"testing"

	"sigil/api"
	"sigil/bind"
	"sigil/path"
	"sigil/tree"
)

// maker makes trees of the wide schema, paths into them, masks.
type maker struct {
	*rand.Rand
	s    *bind.Schema
	rare int // one of so many things is wrong; 0: none is
}

func newMaker(seed int64) *maker {
	return &maker{Rand: rand.New(rand.NewSource(seed)), s: wideSchema()}
}

// pick is one of some.
func pick[T any](m *maker, l ...T) T { return l[m.Intn(len(l))] }

// wrong says whether the next thing is to be wrong.
func (m *maker) wrong() bool { return m.rare > 0 && m.Intn(m.rare) == 0 }

// message makes a typed tree in which messages lie so many levels deep.
func (m *maker) message(name string, levels int) api.Value {
	info, _ := m.s.Message(name)
	v := msg()
	for range m.Intn(8) {
		if f := pick(m, info.Fields...); f.Type != api.TMessage || levels > 1 {
			v.Fields = append(v.Fields, at(f.Number, m.field(f, levels)))
		}
	}
	return v
}

// field makes a value that fits a field.
func (m *maker) field(f api.Field, levels int) api.Value {
	switch f.Card {
	case api.CRepeated:
		l := list()
		for range m.Intn(4) {
			l.List = append(l.List, m.value(f.Type, f.Of, levels))
		}
		return l
	case api.CMap:
		l := dict()
		for range m.Intn(5) {
			l.List = append(l.List, pair(m.value(f.Key, "", levels), m.value(f.Type, f.Of, levels)))
		}
		return l
	}
	return m.value(f.Type, f.Of, levels)
}

// value makes a value of a type.
func (m *maker) value(typ int, of string, levels int) api.Value {
	switch typ {
	case api.TMessage:
		return m.message(of, levels-1)
	case api.TString:
		return text(pick(m, "", "", "a", "b", "a\x00", "é", "\U0010ffff", "\"\\/", "]", "\n\r\t\b\f\x01\x7f", "true", "0", strings.Repeat("long ", 9)))
	case api.TBytes:
		return text(pick(m, "", "", "a", "\xff", "\x00\xff", strings.Repeat("\x80", m.Intn(20))))
	case api.TBool:
		return num(m.Intn(2))
	case api.TInt32, api.TSint32, api.TSfixed32, api.TEnum:
		return num(pick(m, 0, 0, 1, -1, 5, 64, -65, math.MinInt32, math.MaxInt32, 300))
	case api.TUint32, api.TFixed32, api.TFloat:
		return num(pick(m, 0, 0, 1, 128, math.MaxUint32, 1<<31))
	}
	return num(pick(m, 0, 0, 1, -1, math.MinInt, math.MaxInt, 1<<40, -1<<62))
}

// normal makes a normal tree of a type.
func (m *maker) normal(name string) api.Value { return m.made(name, m.message(name, 1+m.Intn(5))) }

// made is the normal tree that one means.
func (m *maker) made(name string, v api.Value) api.Value {
	v, _, e := tree.Normalise(m.s, name, v)
	if e != api.OK {
		panic(e)
	}
	return v
}

// way makes the steps of a path, and what fits where it ends: mostly to what is there in the tree, or near it.
func (m *maker) way(name string, v api.Value) ([]api.Step, api.Value) {
	var steps []api.Step
	so := api.Field{Card: api.CSingle, Type: api.TMessage, Of: name}
	for m.Intn(5) > 0 {
		switch {
		case so.Card == api.CRepeated:
			steps = append(steps, index(m.Intn(len(v.List)+2)))
			so.Card = api.CSingle
		case so.Card == api.CMap:
			k := m.value(so.Key, "", 0)
			if len(v.List) > 0 && m.Intn(3) > 0 {
				k = pick(m, v.List...).List[0]
			}
			steps = append(steps, key(k))
			so.Card = api.CSingle
		case so.Type == api.TMessage:
			info, _ := m.s.Message(so.Of)
			so = pick(m, info.Fields...)
			if len(v.Fields) > 0 && m.Intn(3) > 0 {
				so, _ = m.s.Field(info.Name, pick(m, v.Fields...).Number)
			}
			if m.Intn(6) == 0 {
				so, _ = m.s.Field(info.Name, pick(m, info.Fields...).Number)
			}
			steps = append(steps, field(so.Number))
		default:
			return steps, m.fitting(so)
		}
		v, _ = secondGet(v, steps[len(steps)-1:])
	}
	return steps, m.fitting(so)
}

// fitting makes a value that fits where a path stands, perhaps a zero, perhaps one that is not normal, or of another field.
func (m *maker) fitting(f api.Field) api.Value {
	switch {
	case m.wrong():
		info, _ := m.s.Message("w.W")
		return m.field(pick(m, info.Fields...), 3)
	case m.wrong():
		return m.field(f, 4)
	case f.Type == api.TMessage && f.Card == api.CSingle:
		return m.normal(f.Of)
	}
	// A message around it makes it normal.
	if f.Type == api.TMessage || f.Card == api.CMap {
		for _, g := range fieldsOf(m.s) {
			if g.Type == f.Type && g.Of == f.Of && g.Card == f.Card && g.Key == f.Key {
				v := m.made("w.W", one(g.Number, m.field(f, 3)))
				if len(v.Fields) > 0 {
					return v.Fields[0].Value
				}
			}
		}
		return api.Value{Kind: map[int]int{api.CRepeated: api.VList, api.CMap: api.VMap, api.CSingle: api.VMessage, api.COptional: api.VMessage}[f.Card]}
	}
	return m.field(f, 3)
}

// fieldsOf are the fields of w.W.
func fieldsOf(s *bind.Schema) []api.Field {
	info, _ := s.Message("w.W")
	return info.Fields
}

// spell writes steps as anyone may: fields by either name, keys with escapes where there need not be any.
func (m *maker) spell(name string, steps []api.Step) string {
	var b strings.Builder
	so := api.Field{Of: name}
	for i, st := range steps {
		switch st.Kind {
		case api.SField:
			so, _ = m.s.Field(so.Of, st.Number)
			word := so.Name
			if so.Number != blank && so.Number != digit {
				word = pick(m, so.Name, so.Json)
			}
			b.WriteString(strings.Repeat(".", min(1, i)) + word)
		case api.SIndex:
			fmt.Fprintf(&b, "[%d]", st.Number)
		case api.SKey:
			k := secondKeyText(so.Key, st.Key)
			if so.Key == api.TString && m.Intn(2) == 0 {
				k = `"`
				for _, c := range []byte(st.Key.Text) {
					k += fmt.Sprintf(pick(m, `\x%02x`, `\X%02X`, `\%03o`), c)
				}
				k += `"`
			}
			b.WriteString("[" + k + "]")
		}
	}
	return b.String()
}

// mangled is a text in which a piece is changed, left out, doubled or put elsewhere.
func (m *maker) mangled(s string) string {
	i := m.Intn(len(s) + 1)
	k := i + m.Intn(min(4, len(s)-i)+1)
	far := m.Intn(len(s) + 1)
	in := pick(m, ".", "[", "]", "[0]", "[1]", ".a", "a", "s_1", "r_17", "0", "-", "true", "false", `"`, `\`, `["a"]`, " ", "é", "\xff", "\x00", "9999999999", ".of_v", ".w")
	return pick(m, s[:i]+s[k:], s[:i]+in+s[i:], s[:i]+in+s[k:], s[:k]+s[i:], s[:far]+s[i:k]+s[far:], s[:i])
}

// mask makes a mask, mostly of what is there in the tree.
func (m *maker) mask(name string, v api.Value) []string {
	var l []string
	for range m.Intn(6) {
		steps, _ := m.way(name, v)
		bare := slices.DeleteFunc(steps, func(st api.Step) bool { return st.Kind != api.SField })
		if len(bare) == 0 && m.Intn(4) > 0 {
			continue // the path without words too often would hide the others
		}
		p := m.spell(name, bare)
		if m.wrong() {
			p = m.mangled(p)
		}
		l = append(l, p)
	}
	return l
}

// agrees holds all calls that are handed a path against the second reading, and tells the error of Set.
func agrees(t *testing.T, s *bind.Schema, name string, m api.Value, p string, v api.Value) api.Errno {
	t.Helper()
	steps, e := secondParse(s, name, p)
	if e != api.OK {
		parseRefuses(t, s, name, p, e)
		getRefuses(t, s, name, m, p, e)
		setRefuses(t, s, name, m, p, v, e)
		clearRefuses(t, s, name, m, p, e)
		return e
	}
	parses(t, s, name, p, steps...)
	if there, ok := secondGet(m, steps); ok {
		gets(t, s, name, m, p, there)
		less, _ := secondClear(s, name, m, steps)
		clears(t, s, name, m, p, less)
	} else {
		lacks(t, s, name, m, p)
	}
	with, e := secondSet(s, name, m, steps, v)
	if e != api.OK {
		setRefuses(t, s, name, m, p, v, e)
		return e
	}
	sets(t, s, name, m, p, v, with)
	return api.OK
}

// agreesOn holds Keep and Strip against the second reading, and tells the error.
func agreesOn(t *testing.T, s *bind.Schema, name string, m api.Value, mask []string) api.Errno {
	t.Helper()
	paths, e := secondMask(s, name, mask)
	if e != api.OK {
		maskRefuses(t, s, name, m, e, mask...)
		return e
	}
	keeps(t, s, name, m, secondKept(m, paths, nil), mask...)
	if slices.ContainsFunc(paths, func(p []int) bool { return len(p) == 0 }) {
		keeps(t, s, name, m, m, mask...)
		strips(t, s, name, m, msg(), mask...)
	} else {
		strips(t, s, name, m, secondLeft(m, paths, nil), mask...)
	}
	return api.OK
}

// enough looks whether each of some errors was met often.
func enough(t *testing.T, met map[api.Errno]int, errors ...api.Errno) {
	t.Helper()
	for _, e := range errors {
		if met[e] < 20 {
			t.Errorf("only %d of what was made is %v", met[e], e)
		}
	}
}

func TestMadePaths(t *testing.T) { // P1301 to P1308, P1315: made trees, paths and values, right and wrong, against the second reading
	met := map[api.Errno]int{}
	for seed := range int64(2500) {
		m := newMaker(seed)
		for _, m.rare = range []int{0, 6} {
			for _, name := range m.s.Messages() {
				v := m.normal(name)
				for range 3 {
					steps, in := m.way(name, v)
					p := m.spell(name, steps)
					if m.wrong() {
						p = m.mangled(p)
					}
					met[agrees(t, m.s, name, v, p, in)]++
					if t.Failed() {
						t.Fatalf("seed %d", seed)
					}
				}
			}
		}
	}
	enough(t, met, api.OK, api.ErrStep, api.ErrInto, api.ErrNoField, api.ErrIndex, api.ErrType, api.ErrNormal)
}

func TestMangledPaths(t *testing.T) { // P1301, P1303: made paths of which pieces are changed
	met := map[api.Errno]int{}
	for seed := range int64(4000) {
		m := newMaker(seed)
		for _, name := range m.s.Messages() {
			v := m.normal(name)
			steps, in := m.way(name, v)
			p := m.spell(name, steps)
			for range 3 {
				p = m.mangled(p)
				met[agrees(t, m.s, name, v, p, in)]++
			}
		}
	}
	enough(t, met, api.OK, api.ErrStep, api.ErrInto, api.ErrNoField, api.ErrIndex, api.ErrKeyText)
}

func TestMadeSteps(t *testing.T) { // P1304, P1305: made steps, right and wrong, against the second reading
	met := map[api.Errno]int{}
	for seed := range int64(20000) {
		m := newMaker(seed)
		name := pick(m, m.s.Messages()...)
		steps, _ := m.way(name, m.normal(name))
		for range m.Intn(3) {
			if len(steps) == 0 {
				break
			}
			st := &steps[m.Intn(len(steps))]
			switch m.Intn(5) {
			case 0:
				st.Kind = pick(m, -1, 0, 1, 2, 3, 4)
			case 1:
				st.Number = pick(m, -1, 0, 1, 17, 18, ofV, repeated+api.TMessage, 4194303, 4194304, math.MinInt)
			case 2:
				st.Key = pick(m, api.Value{}, num(0), num(-1), num(2), num(1<<40), text(""), text("\xff"), msg(), list(num(1)), api.Value{Kind: api.VNum, Text: "x"})
			case 3:
				*st = pick(m, index(0), key(text("")), field(1), key(num(1)))
			case 4:
				steps = slices.Insert(steps, m.Intn(len(steps)+1), pick(m, index(0), key(text("")), field(1), field(repeated+api.TMessage), field(mapped+api.TMessage)))
			}
		}
		want, e := secondPrint(m.s, name, steps)
		met[e]++
		if e != api.OK {
			printRefuses(t, m.s, name, e, steps...)
			continue
		}
		prints(t, m.s, name, want, steps...)
	}
	enough(t, met, api.OK, api.ErrStep, api.ErrInto, api.ErrNoField, api.ErrIndex, api.ErrKeyText)
}

func TestMadeMasks(t *testing.T) { // P1309 to P1312: made masks, right and wrong, against the second reading; in other orders, twice, with paths below others
	met := map[api.Errno]int{}
	for seed := range int64(3000) {
		m := newMaker(seed)
		for _, m.rare = range []int{0, 0, 8} {
			for _, name := range m.s.Messages() {
				v := m.normal(name)
				mask := m.mask(name, v)
				e := agreesOn(t, m.s, name, v, mask)
				met[e]++
				if e == api.OK {
					m.alike(t, name, v, mask)
				}
			}
		}
	}
	enough(t, met, api.OK, api.ErrMask, api.ErrInto, api.ErrNoField)
}

// alike looks whether masks that name the same fields come to the same.
func (m *maker) alike(t *testing.T, name string, v api.Value, mask []string) {
	t.Helper()
	kept, _ := path.Keep(m.s, name, v, mask)
	stripped, _ := path.Strip(m.s, name, v, mask)
	more := slices.Clone(mask)
	for range m.Intn(3) {
		if len(mask) == 0 {
			break
		}
		p := pick(m, mask...)
		numbers, _ := secondMask(m.s, name, []string{p})
		steps := []api.Step(nil)
		for _, n := range numbers[0] {
			steps = append(steps, field(n))
		}
		again := m.spell(name, steps) // perhaps by other words
		more = append(more, again)
		if below := again + pick(m, ".w", ".u", ".v", ".s_3", ".of_v", ".list_v.a"); agreesOn(t, m.s, name, v, []string{below}) == api.OK && again != "" {
			more = append(more, below)
		}
	}
	m.Shuffle(len(more), func(i, j int) { more[i], more[j] = more[j], more[i] })
	keeps(t, m.s, name, v, kept, more...)
	strips(t, m.s, name, v, stripped, more...)
}

func TestMadeLeaves(t *testing.T) { // P1313, P1314: made trees, against the second reading
	for seed := range int64(1500) {
		m := newMaker(seed)
		for _, name := range m.s.Messages() {
			v := m.normal(name)
			want, e := secondLeaves(m.s, name, v)
			if e != api.OK {
				leavesRefuse(t, m.s, name, v, e)
				continue
			}
			tells(t, m.s, name, v, want...)
		}
	}
}
