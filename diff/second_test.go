package diff_test

import (
	"fmt"
	"maps"
	"math/big"
	"slices"
	"strings"

	"sigil/api"
	"sigil/bind"
	"sigil/parse"
	"sigil/path"
	"sigil/print"
	"sigil/scan"
	"sigil/tree"
)

// A second reading of the chapter: trees are told apart by tables of their parts; edits are done by laying values behind all that is there and making the tree normal by package tree; schemas are told apart by what package parse tells of their texts.

// secondTrees tells the edits of two normal trees.
func secondTrees(s *bind.Schema, name string, a, b api.Value) ([]api.Edit, api.Errno) {
	l := secondMessages(s, name, "", a, b)
	if valuesOf(a)+valuesOf(b) > api.MaxValues || len(l) > api.MaxEdits || slices.ContainsFunc(l, func(e api.Edit) bool { return len(e.Path) > api.MaxPath }) {
		return nil, api.ErrLong
	}
	return l, api.OK
}

// secondMessages tells those of two messages at a path.
func secondMessages(s *bind.Schema, of, p string, a, b api.Value) []api.Edit {
	tables := [2]map[int]api.Value{{}, {}}
	for i, m := range []api.Value{a, b} {
		for _, e := range m.Fields {
			tables[i][e.Number] = e.Value
		}
	}
	var l []api.Edit
	spell := func(number int) (api.Field, string) {
		f, _ := s.Field(of, number)
		return f, strings.TrimPrefix(p+"."+f.Name, ".")
	}
	for _, number := range slices.Sorted(maps.Keys(tables[0])) {
		if _, ok := tables[1][number]; !ok {
			_, q := spell(number)
			l = append(l, drop(q))
		}
	}
	for _, number := range slices.Sorted(maps.Keys(tables[1])) {
		f, q := spell(number)
		now := tables[1][number]
		old, ok := tables[0][number]
		switch {
		case !ok:
			l = append(l, set(q, now))
		case same(old, now):
		case f.Card == api.CRepeated:
			l = append(l, secondSplice(q, old.List, now.List))
		case f.Card == api.CMap:
			l = append(l, secondMaps(s, f, q, old, now)...)
		case f.Type == api.TMessage:
			l = append(l, secondMessages(s, f.Of, q, old, now)...)
		default:
			l = append(l, set(q, now))
		}
	}
	return l
}

// secondMaps tells those of two maps that are unlike.
func secondMaps(s *bind.Schema, f api.Field, p string, a, b api.Value) []api.Edit {
	has := func(m api.Value, key api.Value) (api.Value, bool) {
		i := slices.IndexFunc(m.List, func(in api.Value) bool { return same(in.List[0], key) })
		if i < 0 {
			return api.Value{}, false
		}
		return m.List[i].List[1], true
	}
	var l []api.Edit
	for _, in := range a.List {
		if _, ok := has(b, in.List[0]); !ok {
			l = append(l, drop(p+secondKey(f.Key, in.List[0])))
		}
	}
	for _, in := range b.List {
		q, now := p+secondKey(f.Key, in.List[0]), in.List[1]
		old, ok := has(a, in.List[0])
		switch {
		case ok && same(old, now):
		case ok && f.Type == api.TMessage:
			l = append(l, secondMessages(s, f.Of, q, old, now)...)
		default:
			l = append(l, set(q, now))
		}
	}
	return l
}

// secondKey writes a key in its brackets.
func secondKey(typ int, k api.Value) string {
	switch typ {
	case api.TBool:
		return fmt.Sprintf("[%v]", k.Num == 1)
	case api.TString:
		return "[" + scan.Quote(k.Text) + "]"
	case api.TUint64, api.TFixed64:
		return fmt.Sprintf("[%d]", uint64(k.Num))
	}
	return fmt.Sprintf("[%d]", k.Num)
}

// secondSplice tries all fronts and ends that there may be, the longest first.
func secondSplice(p string, a, b []api.Value) api.Edit {
	short := min(len(a), len(b))
	for front := short; ; front-- {
		if !slices.EqualFunc(a[:front], b[:front], same) {
			continue
		}
		for end := short - front; ; end-- {
			if slices.EqualFunc(a[len(a)-end:], b[len(b)-end:], same) {
				return splice(p, front, len(a)-front-end, b[front:len(b)-end]...)
			}
		}
	}
}

// secondApply does edits that are right by themselves, on a normal tree.
func secondApply(s *bind.Schema, name string, a api.Value, l []api.Edit) (api.Value, api.Errno) {
	for _, edit := range l {
		steps, e := path.Parse(s, name, edit.Path)
		if e != api.OK {
			return api.Value{}, e
		}
		switch edit.Kind {
		case api.ESet:
			a, e = secondSet(s, name, a, steps, edit.Values[0])
		case api.EClear:
			a, e = secondClear(s, name, a, steps)
		case api.ESplice:
			var v api.Value
			if v, e = secondSpliced(s, name, a, steps, edit); e == api.OK {
				a, e = secondSet(s, name, a, steps, v)
			}
		}
		if e != api.OK {
			return api.Value{}, e
		}
	}
	return a, api.OK
}

// secondSpliced tells the list behind an edit.
func secondSpliced(s *bind.Schema, name string, a api.Value, steps []api.Step, edit api.Edit) (api.Value, api.Errno) {
	if len(steps) == 0 || steps[len(steps)-1].Kind != api.SField || lastField(s, name, steps).Card != api.CRepeated {
		return api.Value{}, api.ErrBase
	}
	if _, ok := secondGet(a, steps[:len(steps)-1]); !ok {
		return api.Value{}, api.ErrBase
	}
	old, _ := secondGet(a, steps)
	sum := new(big.Int).Add(big.NewInt(int64(edit.At)), big.NewInt(int64(edit.Out)))
	if sum.Cmp(big.NewInt(int64(len(old.List)))) > 0 {
		return api.Value{}, api.ErrBase
	}
	out := list()
	for i, v := range old.List {
		if i == edit.At {
			out.List = append(out.List, edit.Values...)
		}
		if i < edit.At || i >= edit.At+edit.Out {
			out.List = append(out.List, v)
		}
	}
	if edit.At == len(old.List) {
		out.List = append(out.List, edit.Values...)
	}
	return out, api.OK
}

// lastField tells the last field on the way of right steps.
func lastField(s *bind.Schema, name string, steps []api.Step) api.Field {
	f := api.Field{Of: name}
	for _, st := range steps {
		if st.Kind == api.SField {
			f, _ = s.Field(f.Of, st.Number)
		}
	}
	return f
}

// secondGet goes along right steps in a normal tree.
func secondGet(m api.Value, steps []api.Step) (api.Value, bool) {
	for _, st := range steps {
		var found []api.Value
		for i, e := range m.Fields {
			if st.Kind == api.SField && e.Number == st.Number {
				found = append(found, m.Fields[i].Value)
			}
		}
		for i, in := range m.List {
			if st.Kind == api.SIndex && i == st.Number {
				found = append(found, in)
			}
			if st.Kind == api.SKey && same(in.List[0], st.Key) {
				found = append(found, in.List[1])
			}
		}
		if len(found) != 1 {
			return api.Value{}, false
		}
		m = found[0]
	}
	return m, true
}

// secondSet lays a value at the end of right steps behind all that is there, so that it wins where the tree is made normal.
func secondSet(s *bind.Schema, name string, m api.Value, steps []api.Step, v api.Value) (api.Value, api.Errno) {
	if e := secondFit(s, name, steps, v); e != api.OK {
		return api.Value{}, e
	}
	out, e := laid(m, steps, v)
	if e != api.OK {
		return api.Value{}, e
	}
	out, _, e = tree.Normalise(s, name, out)
	return out, e
}

// secondFit asks package tree of a message that has the value where the last step goes.
func secondFit(s *bind.Schema, name string, steps []api.Step, v api.Value) api.Errno {
	of := name
	for i, st := range steps {
		if st.Kind == api.SField {
			of = lastField(s, name, steps[:i]).Of
		}
	}
	f := lastField(s, name, steps)
	around, last := v, api.Step{}
	if len(steps) > 0 {
		last = steps[len(steps)-1]
	}
	switch last.Kind {
	case api.SField:
		around = one(f.Number, v)
	case api.SIndex:
		around = one(f.Number, list(v))
	case api.SKey:
		around = one(f.Number, dict(pair(last.Key, v)))
	}
	_, e := tree.Normal(s, of, around)
	idle := (f.Card == api.CRepeated || f.Card == api.CMap) && len(v.List) == 0 || f.Card == api.CSingle && f.Oneof == 0 && f.Type != api.TMessage && v.Num == 0 && v.Text == ""
	if e == api.ErrNormal && last.Kind == api.SField && idle {
		_, e = tree.Typed(s, of, around) // it takes the field away
	}
	if e == api.ErrDepth {
		return api.OK // that is told of the whole
	}
	return e
}

// laid is a tree, perhaps not normal, with a value at the end of right steps.
func laid(m api.Value, steps []api.Step, v api.Value) (api.Value, api.Errno) {
	if len(steps) == 0 {
		return v, api.OK
	}
	old, _ := secondGet(m, steps[:1])
	in, e := laid(old, steps[1:], v)
	if e != api.OK {
		return api.Value{}, e
	}
	switch st := steps[0]; {
	case st.Kind == api.SField:
		return msg(append(slices.Clone(m.Fields), at(st.Number, in))...), api.OK
	case st.Kind == api.SKey:
		return dict(append(slices.Clone(m.List), pair(st.Key, in))...), api.OK
	case st.Number > len(m.List):
		return api.Value{}, api.ErrIndex
	}
	l := append(slices.Clone(m.List), api.Value{})[:max(len(m.List), steps[0].Number+1)]
	l[steps[0].Number] = in
	return list(l...), api.OK
}

// secondClear takes away what stands at the end of right steps.
func secondClear(s *bind.Schema, name string, m api.Value, steps []api.Step) (api.Value, api.Errno) {
	if _, ok := secondGet(m, steps); !ok {
		return api.Value{}, api.ErrBase
	}
	if len(steps) == 0 {
		return msg(), api.OK
	}
	out, _, e := tree.Normalise(s, name, lifted(m, steps))
	return out, e
}

// lifted is a tree, perhaps not normal, without what stands at the end of right steps.
func lifted(m api.Value, steps []api.Step) api.Value {
	if len(steps) > 1 {
		in, _ := secondGet(m, steps[:1])
		out, _ := laid(m, steps[:1], lifted(in, steps[1:]))
		return out
	}
	out := api.Value{Kind: m.Kind}
	for _, e := range m.Fields {
		if e.Number != steps[0].Number {
			out.Fields = append(out.Fields, e)
		}
	}
	for i, in := range m.List {
		if m.Kind == api.VList && i != steps[0].Number || m.Kind == api.VMap && !same(in.List[0], steps[0].Key) {
			out.List = append(out.List, in)
		}
	}
	return out
}

// secondType is a message or enum, by the text that declares it.
type secondType struct {
	word     string
	members  map[int]secondMember
	reserved string
}

// secondMember is what is told of a field or a value.
type secondMember struct{ text, typ, card, name, oneof string }

// secondTypes reads the texts of a schema.
func secondTypes(s *bind.Schema) map[string]secondType {
	all := map[string]secondType{}
	for _, source := range s.Texts() {
		f, bad := parse.Parse(source.Text)
		if bad.Err != api.OK {
			panic(bad)
		}
		secondDeclared(all, f.Package, f.Messages, f.Enums)
	}
	return all
}

func secondDeclared(all map[string]secondType, scope string, messages []api.MessageDecl, enums []api.EnumDecl) {
	for _, m := range messages {
		full := strings.TrimPrefix(scope+"."+m.Name, ".")
		t := secondType{"message", map[int]secondMember{}, secondReserved(api.File{Messages: []api.MessageDecl{{Name: "X", Reserved: m.Reserved, Gone: m.Gone}}})}
		for _, f := range m.Fields {
			in := secondMember{typ: f.Type, card: []string{"", "single", "optional", "repeated", "map"}[f.Card], name: f.Name}
			if f.Card == api.CMap {
				in.typ = fmt.Sprintf("map<%s, %s>", f.Key, f.Type)
			}
			in.text = in.typ + " " + f.Name
			if in.card == "optional" || in.card == "repeated" {
				in.text = in.card + " " + in.text
			}
			if f.Oneof > 0 {
				in.oneof = m.Oneofs[f.Oneof-1]
			}
			t.members[f.Number] = in
		}
		all[full] = t
		secondDeclared(all, full, m.Messages, m.Enums)
	}
	for _, d := range enums {
		t := secondType{"enum", map[int]secondMember{}, secondReserved(api.File{Enums: []api.EnumDecl{{Name: "X", Values: []api.EnumValue{{Name: "Z"}}, Reserved: d.Reserved, Gone: d.Gone}}})}
		for _, v := range d.Values {
			t.members[v.Number] = secondMember{text: v.Name, name: v.Name}
		}
		all[strings.TrimPrefix(scope+"."+d.Name, ".")] = t
	}
}

// secondReserved takes what is reserved from the text of a declaration.
func secondReserved(f api.File) string {
	text, e := print.Text(f)
	if e != api.OK {
		panic(e)
	}
	var l []string
	for line := range strings.Lines(text) {
		if in, ok := strings.CutPrefix(line, "  reserved "); ok {
			l = append(l, strings.TrimSuffix(in, ";\n"))
		}
	}
	return strings.Join(l, ", ")
}

// bothKeys are the keys that one of two tables has, rising.
func bothKeys[K string | int, V any](a, b map[K]V) []K {
	all := maps.Clone(a)
	maps.Copy(all, b)
	return slices.Sorted(maps.Keys(all))
}

// secondSchemas tells the changes between two schemas.
func secondSchemas(s, u *bind.Schema) []api.Change {
	var l []api.Change
	olds, nows := secondTypes(s), secondTypes(u)
	for _, name := range bothKeys(olds, nows) {
		old, now := olds[name], nows[name]
		switch {
		case old.word == "":
			l = append(l, added(name, 0, now.word))
			continue
		case now.word == "":
			l = append(l, gone(name, 0, old.word))
			continue
		case old.word != now.word:
			l = append(l, from(api.CType, name, 0, old.word, now.word))
			continue
		}
		for _, number := range bothKeys(old.members, now.members) {
			x, wasThere := old.members[number]
			y, isThere := now.members[number]
			switch {
			case !wasThere:
				l = append(l, added(name, number, y.text))
			case !isThere:
				l = append(l, gone(name, number, x.text))
			default:
				for i, both := range [][2]string{{x.typ, y.typ}, {x.card, y.card}, {x.name, y.name}, {x.oneof, y.oneof}} {
					if both[0] != both[1] {
						l = append(l, from(api.CType+i, name, number, both[0], both[1]))
					}
				}
			}
		}
		if old.reserved != now.reserved {
			l = append(l, from(api.CReserved, name, 0, old.reserved, now.reserved))
		}
	}
	return l
}
