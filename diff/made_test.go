package diff_test

import (
	"fmt"
	"math"
	"math/rand"
	"slices"
	"strings"
	"testing"

	"sigil/api"
	"sigil/bind"
	"sigil/diff"
	"sigil/path"
	"sigil/tree"
)

// maker makes trees of the wide schema, others near them, edits.
type maker struct {
	*rand.Rand
	s    *bind.Schema
	rare int // one of so many edits is refused; 0: none is
}

func newMaker(seed int64) *maker {
	return &maker{Rand: rand.New(rand.NewSource(seed)), s: wideSchema()}
}

// pick is one of some.
func pick[T any](m *maker, l ...T) T { return l[m.Intn(len(l))] }

// message makes a typed tree in which messages lie so many levels deep.
func (m *maker) message(name string, levels int) api.Value {
	info, _ := m.s.Message(name)
	v := msg()
	for range m.Intn(8) {
		if f := pick(m, info.Fields...); f.Type != api.TMessage || levels > 1 {
			v.Fields = append(v.Fields, at(f.Number, m.field(f, levels)))
		}
	}
	return v
}

// field makes a value that fits a field.
func (m *maker) field(f api.Field, levels int) api.Value {
	switch f.Card {
	case api.CRepeated:
		l := list()
		for range m.Intn(6) {
			l.List = append(l.List, m.value(f.Type, f.Of, levels))
		}
		return l
	case api.CMap:
		l := dict()
		for range m.Intn(6) {
			l.List = append(l.List, pair(m.value(f.Key, "", levels), m.value(f.Type, f.Of, levels)))
		}
		return l
	}
	return m.value(f.Type, f.Of, levels)
}

// value makes a value of a type.
func (m *maker) value(typ int, of string, levels int) api.Value {
	switch typ {
	case api.TMessage:
		return m.message(of, levels-1)
	case api.TString:
		return text(pick(m, "", "", "a", "b", "a\x00", "é", "\U0010ffff", "\"\\/", "]", "].a", "\n\r\t\b\f\x01\x7f", "true", "0", strings.Repeat("long ", 9)))
	case api.TBytes:
		return text(pick(m, "", "", "a", "\xff", "\x00\xff", strings.Repeat("\x80", m.Intn(20))))
	case api.TBool:
		return num(m.Intn(2))
	case api.TInt32, api.TSint32, api.TSfixed32, api.TEnum:
		return num(pick(m, 0, 0, 1, -1, 5, 64, -65, math.MinInt32, math.MaxInt32, 300))
	case api.TUint32, api.TFixed32, api.TFloat:
		return num(pick(m, 0, 0, 1, 128, math.MaxUint32, 1<<31))
	}
	return num(pick(m, 0, 0, 1, -1, math.MinInt, math.MaxInt, 1<<40, -1<<62))
}

// normal makes a normal tree of a type.
func (m *maker) normal(name string) api.Value { return m.made(name, m.message(name, 1+m.Intn(5))) }

// made is the normal tree that one means.
func (m *maker) made(name string, v api.Value) api.Value {
	v, _, e := tree.Normalise(m.s, name, v)
	if e != api.OK {
		panic(e)
	}
	return v
}

// near makes a typed tree that has much in common with a normal one of a type.
func (m *maker) near(name string, v api.Value) api.Value {
	out := msg()
	for _, in := range v.Fields {
		f, _ := m.s.Field(name, in.Number)
		switch m.Intn(8) {
		case 0: // it goes
		case 1:
			out.Fields = append(out.Fields, at(f.Number, m.field(f, 3)))
		case 2, 3:
			out.Fields = append(out.Fields, in)
		default:
			out.Fields = append(out.Fields, at(f.Number, m.nearValue(f, in.Value)))
		}
	}
	if m.Intn(2) == 0 {
		out.Fields = append(out.Fields, m.message(name, 3).Fields...)
	}
	return out
}

// nearValue does so for a value of a field.
func (m *maker) nearValue(f api.Field, v api.Value) api.Value {
	single := f
	single.Card = api.CSingle
	switch v.Kind {
	case api.VMessage:
		return m.near(f.Of, v)
	case api.VList:
		from := m.Intn(len(v.List) + 1)
		to := from + m.Intn(len(v.List)-from+1)
		in := m.field(f, 2).List
		if m.Intn(3) == 0 {
			in = slices.Repeat(v.List[from:to], m.Intn(3)) // what stands there again
		}
		return list(slices.Concat(v.List[:from], in, v.List[to:])...)
	case api.VMap:
		out := dict()
		for _, in := range v.List {
			switch m.Intn(4) {
			case 0: // it goes
			case 1:
				out.List = append(out.List, pair(in.List[0], m.nearValue(single, in.List[1])))
			default:
				out.List = append(out.List, in)
			}
		}
		if m.Intn(2) == 0 {
			out.List = append(out.List, m.field(f, 2).List...)
		}
		return out
	}
	return m.value(f.Type, f.Of, 2)
}

// both makes two trees of a type: mostly near one another.
func (m *maker) both(name string) (api.Value, api.Value) {
	a := m.normal(name)
	switch m.Intn(6) {
	case 0:
		return a, m.normal(name)
	case 1:
		return a, a
	}
	return a, m.made(name, m.near(name, a))
}

func TestMadeTrees(t *testing.T) { // P1902, P1905, P1906: made trees, against the second reading
	met := map[int]int{}
	deep, none := 0, 0
	for seed := range int64(4000) {
		m := newMaker(seed)
		for _, name := range m.s.Messages() {
			a, b := m.both(name)
			want, e := secondTrees(m.s, name, a, b)
			if e != api.OK {
				treesRefuse(t, m.s, name, a, b, e)
				continue
			}
			turns(t, m.s, name, a, b, want...)
			if len(want) == 0 {
				none++
			}
			for _, edit := range want {
				met[edit.Kind]++
				if strings.Count(edit.Path, ".") > 1 && strings.Contains(edit.Path, "[") {
					deep++
				}
			}
		}
		if t.Failed() {
			t.Fatalf("seed %d", seed)
		}
	}
	for _, n := range []int{met[api.ESet], met[api.EClear], met[api.ESplice], deep, none} {
		if n < 500 {
			t.Errorf("too few of what was made: %v, %d deep, %d none", met, deep, none)
		}
	}
}

// way makes the steps of a path: mostly to what is there in the tree, or near it; and tells the field where it stands.
func (m *maker) way(name string, v api.Value) ([]api.Step, api.Field) {
	var steps []api.Step
	so := api.Field{Card: api.CSingle, Type: api.TMessage, Of: name}
	for m.Intn(6) > 0 {
		switch {
		case so.Card == api.CRepeated:
			steps = append(steps, api.Step{Kind: api.SIndex, Number: m.Intn(len(v.List) + 2)})
			so.Card = api.CSingle
		case so.Card == api.CMap:
			k := m.value(so.Key, "", 0)
			if len(v.List) > 0 && m.Intn(3) > 0 {
				k = pick(m, v.List...).List[0]
			}
			steps = append(steps, api.Step{Kind: api.SKey, Key: k})
			so.Card = api.CSingle
		case so.Type == api.TMessage:
			info, _ := m.s.Message(so.Of)
			so = pick(m, info.Fields...)
			if len(v.Fields) > 0 && m.Intn(3) > 0 {
				so, _ = m.s.Field(info.Name, pick(m, v.Fields...).Number)
			}
			steps = append(steps, api.Step{Kind: api.SField, Number: so.Number})
		default:
			return steps, so
		}
		v, _ = secondGet(v, steps[len(steps)-1:])
	}
	return steps, so
}

// edit makes an edit of a tree that is right by itself.
func (m *maker) edit(name string, v api.Value) api.Edit {
	steps, f := m.way(name, v)
	if m.Intn(3) == 0 { // a list
		for range 20 {
			if f.Card == api.CRepeated {
				break
			}
			steps, f = m.way(name, v)
		}
	}
	p, e := path.Print(m.s, name, steps)
	if e != api.OK {
		p = "far"
	}
	if m.rare > 0 && m.Intn(m.rare) == 0 {
		p = m.mangled(p)
	}
	there, ok := secondGet(v, steps)
	switch {
	case f.Card == api.CRepeated && m.Intn(4) > 0:
		from := m.Intn(len(there.List) + 1)
		return splice(p, from, m.Intn(len(there.List)-from+1+m.Intn(2)), m.field(f, 3).List...)
	case m.Intn(12) == 0:
		return splice(p, m.Intn(3), m.Intn(3), m.field(f, 2).List...)
	case ok && m.Intn(3) == 0 || m.Intn(12) == 0:
		return drop(p)
	}
	in := m.field(f, 4)
	if f.Card == api.CSingle && f.Type == api.TMessage {
		in = m.made(f.Of, in)
	}
	return set(p, in)
}

// mangled is a text in which a piece is changed, left out, doubled or put elsewhere.
func (m *maker) mangled(s string) string {
	i := m.Intn(len(s) + 1)
	k := i + m.Intn(min(4, len(s)-i)+1)
	in := pick(m, ".", "[", "]", "[0]", "[1]", ".a", "a", "s_1", "r_17", "0", "-", "true", `"`, `\`, `["a"]`, " ", "\xff", "9999999999", ".of_v", ".w", ".c_d", ".cD", ".u")
	return pick(m, s[:i]+s[k:], s[:i]+in+s[i:], s[:i]+in+s[k:], s[:k]+s[i:], s[:i], s+in)
}

// edits makes edits of which each is done on what those ahead of it left. One that is refused is there seldom.
func (m *maker) edits(name string, v api.Value) []api.Edit {
	var l []api.Edit
	for range m.Intn(8) {
		edit := m.edit(name, v)
		behind, e := secondApply(m.s, name, v, []api.Edit{edit})
		if e == api.OK {
			v = behind
		} else if m.rare == 0 || m.Intn(m.rare) > 0 {
			continue
		}
		l = append(l, edit)
	}
	return l
}

func TestMadeEdits(t *testing.T) { // P1903, P1904, P1905: made edits, right and wrong, against the second reading
	met := map[api.Errno]int{}
	long := 0
	for seed := range int64(4000) {
		m := newMaker(seed)
		for _, m.rare = range []int{0, 3} {
			for _, name := range m.s.Messages() {
				a := m.normal(name)
				l := m.edits(name, a)
				want, e := secondApply(m.s, name, a, l)
				met[e]++
				if e != api.OK {
					refuses(t, m.s, name, a, e, l...)
					continue
				}
				applies(t, m.s, name, a, want, l...)
				if len(l) > 3 {
					long++
				}
			}
		}
		if t.Failed() {
			t.Fatalf("seed %d", seed)
		}
	}
	for _, e := range []api.Errno{api.OK, api.ErrBase, api.ErrStep, api.ErrInto, api.ErrNoField, api.ErrIndex, api.ErrType, api.ErrNormal} {
		if met[e] < 20 {
			t.Errorf("only %d of what was made is %v", met[e], e)
		}
	}
	if long < 1000 {
		t.Errorf("only %d of more than three edits", long)
	}
}

func TestMadeThere(t *testing.T) { // P1905: from one made tree to another and on to a third, all edits in a row, and back
	for seed := range int64(1500) {
		m := newMaker(seed)
		name := pick(m, m.s.Messages()...)
		a, b := m.both(name)
		c := m.made(name, m.near(name, b))
		first, e := diff.Trees(m.s, name, a, b)
		second, f := diff.Trees(m.s, name, b, c)
		if e != api.OK || f != api.OK {
			continue // a path is too long
		}
		applies(t, m.s, name, a, c, slices.Concat(first, second)...)
	}
}

// aType is a message or an enum of a made schema.
type aType struct {
	enum    bool
	members map[int]string // by number: the text, without the oneof
	oneofs  map[int]string // by number: the oneof that the field is in
	rest    string         // what is reserved
	within  string         // a type declared in it
}

// typeNames are the names of made types.
var typeNames = []string{"A", "B", "C", "AB", "a"}

// anyType makes a type.
func (m *maker) anyType() aType {
	d := aType{enum: m.Intn(3) == 0, members: map[int]string{}, oneofs: map[int]string{}}
	for range m.Intn(6) {
		m.another(&d)
	}
	return d
}

// another changes one thing of a type.
func (m *maker) another(d *aType) {
	number := pick(m, 1, 2, 3, 4, 9, 17)
	name := fmt.Sprintf("f%d", number)
	if m.Intn(4) == 0 {
		name = pick(m, "x", "y", "z_1", "x_y")
	}
	switch m.Intn(10) {
	case 0:
		delete(d.members, number)
	case 1:
		d.rest = pick(m, "", "", "reserved 5;", "reserved 5 to 8;", "reserved 5, 6, 7, 8;", "reserved 20 to max;", `reserved "q";`, `reserved "r", "q"; reserved 7;`, `reserved "q", "r";`, "reserved 7; reserved 5;")
	case 2:
		d.within = pick(m, "", "message I { }", "enum I { Z = 0; }", "message I { A a = 1; enum J { Z = 0; N = 1; } }", "message I { message J { } }")
	case 3:
		d.oneofs[number] = pick(m, "", "o", "p")
	default:
		if d.enum {
			d.members[pick(m, number, -number)] = name
			return
		}
		typ := pick(m, "int32", "int64", "string", "bytes", "bool", "A", "B", "C", ".AB", "float")
		d.members[number] = pick(m, typ, typ, "optional "+typ, "repeated "+typ, "map<"+pick(m, "int32", "string", "bool")+", "+typ+">") + " " + name
		if strings.Contains(d.members[number], "<") || strings.HasPrefix(d.members[number], "optional") || strings.HasPrefix(d.members[number], "repeated") {
			delete(d.oneofs, number)
		}
	}
}

// written writes types, members in any order.
func (m *maker) written(types map[string]aType) string {
	var b strings.Builder
	b.WriteString(`syntax = "proto3"; `)
	names := bothKeys(types, nil)
	m.Shuffle(len(names), func(i, j int) { names[i], names[j] = names[j], names[i] })
	for _, name := range names {
		d := types[name]
		if d.enum {
			fmt.Fprintf(&b, "enum %s { Z = 0; %s", name, d.rest)
		} else {
			fmt.Fprintf(&b, "message %s { %s %s", name, d.rest, d.within)
		}
		numbers := bothKeys(d.members, nil)
		m.Shuffle(len(numbers), func(i, j int) { numbers[i], numbers[j] = numbers[j], numbers[i] })
		blocks := map[string]string{}
		for _, n := range numbers {
			in := fmt.Sprintf("%s = %d; ", d.members[n], n)
			if !d.enum && d.oneofs[n] != "" {
				blocks[d.oneofs[n]] += in
			} else {
				b.WriteString(in)
			}
		}
		for _, o := range bothKeys(blocks, nil) {
			fmt.Fprintf(&b, "oneof %s { %s } ", o, blocks[o])
		}
		b.WriteString("} ")
	}
	return b.String()
}

// schemas makes two schemas that have much in common; false: one of them is none.
func (m *maker) schemas() (s, u *bind.Schema, ok bool) {
	types := map[string]aType{}
	for _, name := range typeNames {
		if m.Intn(4) > 0 || name == "A" {
			types[name] = m.anyType()
		}
	}
	s, bad := bind.Load([]api.Source{{Name: "f", Text: m.written(types)}})
	others := map[string]aType{}
	for _, name := range typeNames {
		d, there := types[name]
		switch {
		case m.Intn(12) == 0 && name != "A":
			continue
		case !there && m.Intn(3) > 0:
			continue
		case !there || m.Intn(12) == 0:
			d = m.anyType()
		case m.Intn(2) == 0:
			d.members, d.oneofs = clone(d.members), clone(d.oneofs)
			for range 1 + m.Intn(3) {
				m.another(&d)
			}
		}
		others[name] = d
	}
	u, worse := bind.Load([]api.Source{{Name: "g", Text: m.written(others)}})
	return s, u, bad.Err == api.OK && worse.Err == api.OK
}

// clone copies a table.
func clone(m map[int]string) map[int]string {
	out := map[int]string{}
	for k, v := range m {
		out[k] = v
	}
	return out
}

func TestMadeSchemas(t *testing.T) { // P1907 to P1909: made schemas, against what their texts say
	met := map[int]int{}
	none := 0
	for seed := range int64(30000) {
		m := newMaker(seed)
		s, u, ok := m.schemas()
		if !ok {
			continue
		}
		want := secondSchemas(s, u)
		changes(t, s, u, want...)
		if len(want) == 0 {
			none++
		}
		for _, c := range want {
			met[c.Kind]++
		}
		if t.Failed() {
			t.Fatalf("seed %d", seed)
		}
	}
	for kind := range api.CReserved {
		if met[kind+1] < 200 || none < 50 {
			t.Errorf("too few of what was made: %v, %d none", met, none)
		}
	}
}
