package path_test

import (
	"fmt"
	"math/big"
	"regexp"
	"slices"
	"strings"
	"unicode/utf8"

	"sigil/api"
	"sigil/bind"
	"sigil/scan"
	"sigil/tree"
)

// A second reading of the chapter: texts by regular expressions, numbers by math/big, changes by what is laid behind the rest and made normal by package tree, masks by lists of words, leaves by the trails of package tree.

const (
	aWord   = `[A-Za-z_][A-Za-z0-9_]*`
	aNumber = `0|-?[1-9][0-9]*`
	aString = `"(?:[^"\\]|\\(?s:.))*"`
	inside  = `\[(?:true|false|` + aNumber + `|` + aString + `)\]`
)

var (
	pathForm   = regexp.MustCompile(`\A(?:` + aWord + `(?:\.` + aWord + `|` + inside + `)*)?\z`)
	pieceForm  = regexp.MustCompile(inside + `|` + aWord)
	numberForm = regexp.MustCompile(`\A(?:` + aNumber + `)\z`)
)

// secondPieces are the words and brackets of a path's text.
func secondPieces(p string) ([]string, bool) {
	if !pathForm.MatchString(p) {
		return nil, false
	}
	pieces := pieceForm.FindAllString(p, -1)
	for _, in := range pieces {
		if in[0] != '[' && len(in) > api.MaxName {
			return nil, false
		}
		if strings.HasPrefix(in, `["`) {
			if _, e := scan.Unquote(in[1 : len(in)-1]); e != api.OK {
				return nil, false
			}
		}
	}
	return pieces, true
}

// stand is where the second reading stands: in a message of a type if card is 0, else in a field of it that has this card.
type stand struct {
	of   string
	in   api.Field
	card int
}

// onward is where it stands behind a field, or (with card 0) behind one of the values of its list or map.
func onward(f api.Field, card int) stand { return stand{f.Of, f, card} }

func (p stand) isMessage() bool { return p.card == 0 && p.of != "" && p.in.Type != api.TEnum }

// card is that of a field, 0 if it holds one value.
func card(f api.Field) int {
	if f.Card == api.CRepeated || f.Card == api.CMap {
		return f.Card
	}
	return 0
}

// secondParse reads a path of a name and a length that are right.
func secondParse(s *bind.Schema, name, p string) ([]api.Step, api.Errno) {
	pieces, ok := secondPieces(p)
	if !ok {
		return nil, api.ErrStep
	}
	var steps []api.Step
	so := stand{of: name}
	for _, in := range pieces {
		step := api.Step{Kind: api.SField}
		switch {
		case in[0] != '[' && !so.isMessage(), in[0] == '[' && so.card == 0:
			return nil, api.ErrInto
		case in[0] != '[':
			f, e := s.Named(so.of, in)
			if e != api.OK {
				return nil, api.ErrNoField
			}
			step.Number = f.Number
			so = onward(f, card(f))
		case so.card == api.CRepeated:
			n, ok := whole(in[1:len(in)-1], big.NewInt(0), big.NewInt(4194303))
			if !ok {
				return nil, api.ErrIndex
			}
			step = index(n)
			so = onward(so.in, 0)
		default:
			k, ok := secondKey(so.in.Key, in[1:len(in)-1])
			if !ok {
				return nil, api.ErrKeyText
			}
			step = key(k)
			so = onward(so.in, 0)
		}
		steps = append(steps, step)
	}
	return steps, api.OK
}

// whole is the int with the bits of a whole number between two others.
func whole(digits string, least, most *big.Int) (int, bool) {
	n, ok := new(big.Int).SetString(digits, 10)
	if !ok || !numberForm.MatchString(digits) || n.Cmp(least) < 0 || n.Cmp(most) > 0 {
		return 0, false
	}
	if n.Sign() < 0 {
		return int(n.Int64()), true
	}
	return int(n.Uint64()), true
}

// secondBounds are the least and the greatest number of a type of keys.
func secondBounds(typ int) (*big.Int, *big.Int) {
	power := func(n uint) *big.Int { return new(big.Int).Lsh(big.NewInt(1), n) }
	minus := func(n *big.Int, less int64) *big.Int { return new(big.Int).Sub(n, big.NewInt(less)) }
	switch typ {
	case api.TUint32, api.TFixed32:
		return big.NewInt(0), minus(power(32), 1)
	case api.TUint64, api.TFixed64:
		return big.NewInt(0), minus(power(64), 1)
	case api.TInt64, api.TSint64, api.TSfixed64:
		return new(big.Int).Neg(power(63)), minus(power(63), 1)
	}
	return new(big.Int).Neg(power(31)), minus(power(31), 1)
}

// secondKey is the key of a type that an inside writes.
func secondKey(typ int, in string) (api.Value, bool) {
	switch typ {
	case api.TBool:
		return num(strings.Count(in, "true")), in == "true" || in == "false"
	case api.TString:
		if in[0] != '"' {
			return api.Value{}, false
		}
		k, _ := scan.Unquote(in)
		return text(k), utf8.ValidString(k)
	}
	least, most := secondBounds(typ)
	n, ok := whole(in, least, most)
	return num(n), ok
}

// secondPrint writes steps of a name and a number that are right.
func secondPrint(s *bind.Schema, name string, steps []api.Step) (string, api.Errno) {
	var b strings.Builder
	so := stand{of: name}
	for i, st := range steps {
		none := same(st.Key, api.Value{})
		switch {
		case st.Kind < 1 || st.Kind > 3 || st.Kind == api.SKey && st.Number != 0 || st.Kind != api.SKey && !none:
			return "", api.ErrStep
		case st.Kind == api.SField && !so.isMessage(), st.Kind == api.SIndex && so.card != api.CRepeated, st.Kind == api.SKey && so.card != api.CMap:
			return "", api.ErrInto
		case st.Kind == api.SField:
			f, e := s.Field(so.of, st.Number)
			if e != api.OK {
				return "", api.ErrNoField
			}
			b.WriteString(strings.Repeat(".", min(i, 1)) + f.Name)
			so = onward(f, card(f))
			continue
		case st.Kind == api.SIndex && (st.Number < 0 || st.Number > 4194303):
			return "", api.ErrIndex
		case st.Kind == api.SIndex:
			fmt.Fprintf(&b, "[%d]", st.Number)
		case !rightKey(so.in.Key, st.Key):
			return "", api.ErrKeyText
		default:
			b.WriteString("[" + secondKeyText(so.in.Key, st.Key) + "]")
		}
		so = onward(so.in, 0)
	}
	if b.Len() > api.MaxPath {
		return "", api.ErrLong
	}
	return b.String(), api.OK
}

// secondKeyText writes a key.
func secondKeyText(typ int, k api.Value) string {
	switch typ {
	case api.TBool:
		return fmt.Sprint(k.Num == 1)
	case api.TString:
		return scan.Quote(k.Text)
	case api.TUint64, api.TFixed64:
		return fmt.Sprint(uint64(k.Num))
	}
	return fmt.Sprint(k.Num)
}

// rightKey asks package tree whether a value is a key of a type.
func rightKey(typ int, k api.Value) bool {
	_, e := tree.Typed(wideSchema(), "w.W", one(keyed+typ, dict(pair(k, num(0)))))
	return e == api.OK
}

// secondGet goes along right steps in a normal tree.
func secondGet(m api.Value, steps []api.Step) (api.Value, bool) {
	for _, st := range steps {
		var found []api.Value
		for i, e := range m.Fields {
			if st.Kind == api.SField && e.Number == st.Number {
				found = append(found, m.Fields[i].Value)
			}
		}
		for i, in := range m.List {
			if st.Kind == api.SIndex && i == st.Number {
				found = append(found, in)
			}
			if st.Kind == api.SKey && same(in.List[0], st.Key) {
				found = append(found, in.List[1])
			}
		}
		if len(found) != 1 {
			return api.Value{}, false
		}
		m = found[0]
	}
	return m, true
}

// secondSet lays a value at the end of right steps behind all that is there, so that it wins where the tree is made normal.
func secondSet(s *bind.Schema, name string, m api.Value, steps []api.Step, v api.Value) (api.Value, api.Errno) {
	if e := secondFit(s, name, steps, v); e != api.OK {
		return api.Value{}, e
	}
	out, e := laid(m, steps, v)
	if e != api.OK {
		return api.Value{}, e
	}
	out, _, e = tree.Normalise(s, name, out)
	return out, e
}

// secondFit asks package tree of a message that has the value where the last step goes.
func secondFit(s *bind.Schema, name string, steps []api.Step, v api.Value) api.Errno {
	var f api.Field // the last field that is gone to, in a message of the type name
	last := api.Step{}
	for _, last = range steps {
		if last.Kind == api.SField {
			if f.Number > 0 {
				name = f.Of
			}
			f, _ = s.Field(name, last.Number)
		}
	}
	around := v
	switch last.Kind {
	case api.SField:
		around = one(f.Number, v)
	case api.SIndex:
		around = one(f.Number, list(v))
	case api.SKey:
		around = one(f.Number, dict(pair(last.Key, v)))
	}
	_, e := tree.Normal(s, name, around)
	if e == api.ErrNormal && last.Kind == api.SField && goes(s, name, row(last), v) {
		_, e = tree.Typed(s, name, around)
	}
	if e == api.ErrDepth {
		return api.OK
	}
	return e
}

// laid is a tree, perhaps not normal, with a value at the end of right steps.
func laid(m api.Value, steps []api.Step, v api.Value) (api.Value, api.Errno) {
	if len(steps) == 0 {
		return v, api.OK
	}
	old, _ := secondGet(m, steps[:1])
	in, e := laid(old, steps[1:], v)
	if e != api.OK {
		return api.Value{}, e
	}
	switch st := steps[0]; {
	case st.Kind == api.SField:
		return msg(append(slices.Clone(m.Fields), at(st.Number, in))...), api.OK
	case st.Kind == api.SKey:
		return dict(append(slices.Clone(m.List), pair(st.Key, in))...), api.OK
	case st.Number > len(m.List):
		return api.Value{}, api.ErrIndex
	}
	l := append(slices.Clone(m.List), api.Value{})[:max(len(m.List), steps[0].Number+1)]
	l[steps[0].Number] = in
	return list(l...), api.OK
}

// secondClear takes away what stands at the end of right steps.
func secondClear(s *bind.Schema, name string, m api.Value, steps []api.Step) (api.Value, api.Errno) {
	if _, ok := secondGet(m, steps); !ok {
		return api.Value{}, api.ErrAbsent
	}
	if len(steps) == 0 {
		return msg(), api.OK
	}
	out, _, e := tree.Normalise(s, name, lifted(m, steps))
	return out, e
}

// lifted is a tree, perhaps not normal, without what stands at the end of right steps.
func lifted(m api.Value, steps []api.Step) api.Value {
	if len(steps) > 1 {
		in, _ := secondGet(m, steps[:1])
		out, _ := laid(m, steps[:1], lifted(in, steps[1:]))
		return out
	}
	out := api.Value{Kind: m.Kind}
	for _, e := range m.Fields {
		if e.Number != steps[0].Number {
			out.Fields = append(out.Fields, e)
		}
	}
	for i, in := range m.List {
		if m.Kind == api.VList && i != steps[0].Number || m.Kind == api.VMap && !same(in.List[0], steps[0].Key) {
			out.List = append(out.List, in)
		}
	}
	return out
}

// secondMask is the numbers of the fields of each path of a mask whose lengths are right.
func secondMask(s *bind.Schema, name string, mask []string) ([][]int, api.Errno) {
	var all [][]int
	for _, p := range mask {
		pieces, ok := secondPieces(p)
		if !ok || strings.Contains(p, "[") {
			return nil, api.ErrMask
		}
		var numbers []int
		so := stand{of: name}
		for _, in := range pieces {
			if !so.isMessage() {
				return nil, api.ErrInto
			}
			f, e := s.Named(so.of, in)
			if e != api.OK {
				return nil, api.ErrNoField
			}
			numbers, so = append(numbers, f.Number), onward(f, 0)
		}
		all = append(all, numbers)
	}
	return all, api.OK
}

// begins says whether one list begins with another.
func begins(l, with []int) bool { return len(l) >= len(with) && slices.Equal(l[:len(with)], with) }

// secondKept is a value with what paths name, which itself stands behind these fields.
func secondKept(v api.Value, paths [][]int, here []int) api.Value {
	out := v
	out.Fields, out.List = nil, nil
	for _, e := range v.Fields {
		in := append(slices.Clone(here), e.Number)
		if slices.ContainsFunc(paths, func(p []int) bool { return begins(in, p) || begins(p, in) }) {
			out.Fields = append(out.Fields, at(e.Number, secondKept(e.Value, paths, in)))
		}
	}
	for _, in := range v.List {
		out.List = append(out.List, secondKept(in, paths, here))
	}
	return out
}

// secondLeft is a value without what paths name.
func secondLeft(v api.Value, paths [][]int, here []int) api.Value {
	out := v
	out.Fields, out.List = nil, nil
	for _, e := range v.Fields {
		in := append(slices.Clone(here), e.Number)
		if !slices.ContainsFunc(paths, func(p []int) bool { return begins(in, p) }) {
			out.Fields = append(out.Fields, at(e.Number, secondLeft(e.Value, paths, in)))
		}
	}
	for _, in := range v.List {
		out.List = append(out.List, secondLeft(in, paths, here))
	}
	return out
}

// secondLeaves are the leaves of a normal tree, by the trails of its walk; trails through a map have two numbers for a step.
func secondLeaves(s *bind.Schema, name string, m api.Value) ([]string, api.Errno) {
	var all []string
	walk, e := tree.Walk(s, name, m)
	if e != api.OK {
		panic(e)
	}
	for trail, v := range walk {
		if v.Kind != api.VNum && v.Kind != api.VText && (v.Kind != api.VMessage || len(v.Fields) > 0) {
			continue
		}
		steps, ok := stepsTo(m, trail)
		if !ok {
			continue // a key
		}
		p, e := secondPrint(s, name, steps)
		if e != api.OK {
			return nil, e
		}
		all = append(all, p)
	}
	return all, api.OK
}

// stepsTo are the steps of a trail; false: it is that of a key.
func stepsTo(m api.Value, trail []int) ([]api.Step, bool) {
	var steps []api.Step
	for len(trail) > 0 {
		n := trail[0]
		trail = trail[1:]
		switch m.Kind {
		case api.VMessage:
			steps = append(steps, field(n))
			i := slices.IndexFunc(m.Fields, func(e api.Entry) bool { return e.Number == n })
			m = m.Fields[i].Value
		case api.VList:
			steps = append(steps, index(n))
			m = m.List[n]
		case api.VMap:
			if trail[0] == 1 {
				return nil, false
			}
			trail = trail[1:]
			steps = append(steps, key(m.List[n].List[0]))
			m = m.List[n].List[1]
		}
	}
	return steps, true
}
