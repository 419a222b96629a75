package stream_test

import (
	"fmt"
	"math"
	"math/rand"
	"slices"
	"strings"
	"testing"

	"sigil/api"
	"sigil/bind"
	"sigil/tree"
)

// words are the words of the scalars, by type.
var words = []string{"", "double", "float", "int32", "int64", "uint32", "uint64", "sint32", "sint64", "fixed32", "fixed64", "sfixed32", "sfixed64", "bool", "string", "bytes"}

// keyTypes are the types that a map's keys have.
var keyTypes = []int{api.TInt32, api.TInt64, api.TUint32, api.TUint64, api.TSint32, api.TSint64, api.TFixed32, api.TFixed64, api.TSfixed32, api.TSfixed64, api.TBool, api.TString}

// maker makes schemas, texts of them, and trees.
type maker struct{ *rand.Rand }

func newMaker(seed int64) *maker { return &maker{rand.New(rand.NewSource(seed))} }

// pick is one of many.
func pick[T any](m *maker, l ...T) T { return l[m.Intn(len(l))] }

// often says yes once in so many times.
func (m *maker) often(n int) bool { return m.Intn(n) == 0 }

// shuffled is a list in any order.
func shuffled[T any](m *maker, l []T) []T {
	l = slices.Clone(l)
	m.Shuffle(len(l), func(i, k int) { l[i], l[k] = l[k], l[i] })
	return l
}

// pack is a package, with what it declares.
type pack struct {
	name  string
	decls []decl
}

// decl is a message or an enum: what stands in it may stand in any order.
type decl struct {
	name, full string
	enum       bool
	stands     []statement // of an enum behind its zero
	inner      []decl
}

// statement is one of a message or an enum. With a head it is a oneof.
type statement struct {
	head string
	in   []string
}

// packs makes a schema.
func (m *maker) packs() []pack {
	var l []pack
	var messages, enums []string
	for _, name := range shuffled(m, []string{"", "a", "a.b", "c"})[:1+m.Intn(4)] {
		scope := name
		if scope != "" {
			scope += "."
		}
		l = append(l, pack{name, m.decls(scope, 1, &messages, &enums)})
	}
	for _, p := range l {
		m.fill(p.decls, messages, enums)
	}
	return l
}

// decls makes the names of messages and enums of a scope.
func (m *maker) decls(scope string, deep int, messages, enums *[]string) []decl {
	var l []decl
	for range m.Intn(4) + 1/deep {
		d := decl{name: fmt.Sprint(pick(m, "M", "N", "E", "_x"), len(*messages)+len(*enums)), enum: m.often(4)}
		d.full = scope + d.name
		if d.enum {
			*enums = append(*enums, d.full)
		} else {
			*messages = append(*messages, d.full)
			if deep < 4 && m.often(2) {
				d.inner = m.decls(d.full+".", deep+1, messages, enums)
			}
		}
		l = append(l, d)
	}
	return l
}

// fill makes what stands in messages and enums.
func (m *maker) fill(l []decl, messages, enums []string) {
	for i := range l {
		d := &l[i]
		numbers := m.Perm(30)
		take := func() int {
			n := numbers[0] + 1
			numbers = numbers[1:]
			if n > 28 {
				return n*1000 + 5
			}
			return n
		}
		if d.enum {
			for range m.Intn(4) {
				n := take()
				d.stands = append(d.stands, statement{in: []string{fmt.Sprintf("v%d = %d;", n, pick(m, 1, -1)*n)}})
			}
		} else {
			for range m.Intn(8) {
				d.stands = append(d.stands, statement{in: []string{m.field(take(), messages, enums, false)}})
			}
			for k := range m.Intn(3) {
				s := statement{head: fmt.Sprint("oneof o", k)}
				for range 1 + m.Intn(3) {
					s.in = append(s.in, m.field(take(), messages, enums, true))
				}
				d.stands = append(d.stands, s)
			}
		}
		for k := range m.Intn(4) {
			d.stands = append(d.stands, statement{in: []string{pick(m, fmt.Sprintf("reserved %d;", 500+k), fmt.Sprintf("reserved %d to %d;", 510+20*k, 529+20*k), fmt.Sprintf(`reserved "gone%d";`, k))}})
		}
		m.fill(d.inner, messages, enums)
	}
}

// field makes a field.
func (m *maker) field(number int, messages, enums []string, oneof bool) string {
	typ := words[1+m.Intn(15)]
	switch {
	case len(messages) > 0 && m.often(3):
		typ = "." + pick(m, messages...)
	case len(enums) > 0 && m.often(4):
		typ = "." + pick(m, enums...)
	}
	if !oneof {
		switch m.Intn(4) {
		case 0:
			typ = "optional " + typ
		case 1:
			typ = "repeated " + typ
		case 2:
			typ = fmt.Sprintf("map<%s, %s>", words[pick(m, keyTypes...)], typ)
		}
	}
	return fmt.Sprintf("%s f_%d = %d;", typ, number, number)
}

// sources writes packages, in any order, over any files, with any blanks and comments.
func (m *maker) sources(l []pack) []api.Source {
	type file struct {
		pack  string
		decls []decl
	}
	var files []file
	for _, p := range shuffled(m, l) {
		rest := shuffled(m, p.decls)
		for k := 1 + m.Intn(3); k > 0; k-- {
			n := m.Intn(len(rest) + 1)
			if k == 1 {
				n = len(rest)
			}
			files = append(files, file{p.name, rest[:n]})
			rest = rest[n:]
		}
	}
	var out []api.Source
	for i, f := range files {
		var stands []string
		for k := range files {
			if k != i {
				stands = append(stands, fmt.Sprintf("import 'f%d';", k))
			}
		}
		if f.pack != "" {
			stands = append(stands, "package "+f.pack+";")
		}
		for _, d := range f.decls {
			stands = append(stands, m.declared(d))
		}
		out = append(out, api.Source{Name: fmt.Sprint("f", i), Text: `syntax = "proto3";` + m.mixed(stands)})
	}
	return shuffled(m, out)
}

// declared writes a message or an enum.
func (m *maker) declared(d decl) string {
	var stands []string
	for _, s := range d.stands {
		if s.head != "" {
			stands = append(stands, s.head+" {"+m.mixed(s.in)+"}")
		} else {
			stands = append(stands, s.in...)
		}
	}
	if d.enum {
		return "enum " + d.name + " { ZERO = 0;" + m.mixed(stands) + "}"
	}
	for _, in := range d.inner {
		stands = append(stands, m.declared(in))
	}
	return "message " + d.name + " {" + m.mixed(stands) + "}"
}

// mixed writes statements in any order, with something between that changes nothing.
func (m *maker) mixed(l []string) string {
	between := func() string { return pick(m, " ", "\n", " ; ", "/* ; */", "// }\n", "\t;;", "") }
	out := between()
	for _, s := range shuffled(m, l) {
		out += strings.ReplaceAll(s, "=", pick(m, "=", " =\n", "/**/= ")) + between()
	}
	return out
}

// samples are values of a type, those at its bounds among them.
func samples(typ int) []api.Value {
	nums := func(all ...int) []api.Value {
		var l []api.Value
		for _, n := range all {
			l = append(l, num(n))
		}
		return l
	}
	switch typ {
	case api.TString:
		return []api.Value{text(""), text("a"), text("\x00"), text("é\U0010ffff"), text(strings.Repeat("long\"", 30))}
	case api.TBytes:
		return []api.Value{text(""), text("a"), text("\xff\x00"), text("\x01\x00\x00\x00\x00\x00\x00\x00")}
	case api.TBool:
		return nums(0, 1)
	case api.TInt32, api.TSint32, api.TSfixed32, api.TEnum:
		return nums(0, 1, -1, 63, -64, 256, math.MinInt32, math.MaxInt32)
	case api.TFloat:
		return nums(0, 1<<31, 0x3f800000, 0x7fc00000, math.MaxUint32)
	case api.TUint32, api.TFixed32:
		return nums(0, 1, 127, 128, 1<<31, math.MaxUint32)
	}
	return nums(0, 1, -1, 1<<31, 1<<32, math.MinInt, math.MaxInt, math.MinInt32, math.MaxUint32)
}

// tree makes a message in which others lie so many levels deep; of its fields one of so many is there.
func (m *maker) tree(s *bind.Schema, name string, levels, few int) api.Value {
	info, _ := s.Message(name)
	v := msg()
	for _, f := range info.Fields {
		if f.Type == api.TMessage && levels <= 1 || !m.often(few) {
			continue
		}
		value := func() api.Value {
			if f.Type == api.TMessage {
				return m.tree(s, f.Of, levels-1, few)
			}
			return pick(m, samples(f.Type)...)
		}
		var x api.Value
		switch f.Card {
		case api.CRepeated:
			x = list()
			for range m.Intn(6) {
				x.List = append(x.List, value())
			}
		case api.CMap:
			x = dict()
			for range m.Intn(6) {
				x.List = append(x.List, pair(pick(m, samples(f.Key)...), value()))
			}
		default:
			x = value()
		}
		v.Fields = append(v.Fields, at(f.Number, x))
	}
	return v
}

// normal makes a normal tree of a type.
func (m *maker) normal(t testing.TB, s *bind.Schema, name string) api.Value {
	t.Helper()
	v, _, e := tree.Normalise(s, name, m.tree(s, name, 1+m.Intn(3), 2))
	if e != api.OK {
		t.Fatal(e)
	}
	return v
}

// broken makes a tree wrong in something, perhaps.
func (m *maker) broken(v api.Value) api.Value {
	if len(v.Fields) > 0 && m.often(2) {
		i := m.Intn(len(v.Fields))
		fields := slices.Clone(v.Fields)
		fields[i].Value = m.broken(fields[i].Value)
		v.Fields = fields
		return v
	}
	if len(v.List) > 0 && m.often(2) {
		i := m.Intn(len(v.List))
		l := slices.Clone(v.List)
		l[i] = m.broken(l[i])
		v.List = l
		return v
	}
	switch m.Intn(7) {
	case 0:
		v.Fields = slices.Concat(v.Fields, v.Fields)
	case 1:
		v.Num++
	case 2:
		v.Kind = m.Intn(8)
	case 3:
		v.List = append(slices.Clone(v.List), list())
	case 4:
		v.List = shuffled(m, v.List)
	case 5:
		v.List, v.Fields, v.Num, v.Text = nil, nil, 0, ""
	default:
		v.Fields = append(slices.Clone(v.Fields), at(1+m.Intn(30), num(0)))
	}
	return v
}

// made is a right Head, and values of its type.
type made struct {
	h api.Head
	l []api.Value
}

// made makes a Head and so many values at most.
func (m *maker) made(t testing.TB, most int) made {
	t.Helper()
	for {
		h := api.Head{Sources: m.sources(m.packs()), Per: pick(m, 1, 2, 3, 5, 256)}
		s, bad := bind.Load(h.Sources)
		if bad.Err == api.ErrLong || bad.Err == api.OK && len(s.Messages()) == 0 {
			continue // too many sources, or only enums
		}
		if bad.Err != api.OK {
			t.Fatalf("Load(%.600q): %+v", h.Sources, bad)
		}
		c := made{h: h}
		c.h.Type = pick(m, s.Messages()...)
		for range m.Intn(most + 1) {
			c.l = append(c.l, m.normal(t, s, c.h.Type))
		}
		return c
	}
}

// mades are so many of them.
func mades(t testing.TB, n, most int) []made {
	t.Helper()
	var l []made
	for seed := range n {
		l = append(l, newMaker(int64(seed)).made(t, most))
	}
	return l
}

// stream makes a stream of a Head and values, by Pack and some calls of Append.
func (m *maker) stream(t testing.TB, c made) []byte {
	t.Helper()
	n := m.Intn(len(c.l) + 1)
	if m.often(2) {
		n = len(c.l)
	}
	b := packed(t, c.h, c.l[:n]...)
	for n < len(c.l) {
		k := n + m.Intn(len(c.l)-n+1)
		b = appended(t, c.h, b, c.l[n:k]...)
		n = k
	}
	return b
}
