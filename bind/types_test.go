package bind_test

import (
	"fmt"
	"math/rand"
	"slices"
	"strings"
	"testing"

	"sigil/api"
	"sigil/bind"
)

// typeIs loads sources, in the first of which %T stands for a type, and looks what the field x of the first message that has one names: a type's full name, or an error's word.
func typeIs(t *testing.T, sources []api.Source, in, typ, want string) {
	t.Helper()
	l := slices.Clone(sources)
	l[0].Text = strings.ReplaceAll(l[0].Text, "%T", typ)
	m, bad := loadSecond(l)
	s, worse := bind.Load(l)
	if bad != worse || (s == nil) == (worse == api.Fault{}) {
		t.Errorf("P704: %s: %+v, want %+v", typ, worse, bad)
		return
	}
	if s == nil {
		if worse != fault(worse.Err, 0, in+".x") || worse.Err.Error() != want {
			t.Errorf("P704: %s: %+v, want %s", typ, worse, want)
		}
		return
	}
	f, e := s.Named(in, "x")
	if f.Of != want || e != api.OK || f.Type != api.TMessage && f.Type != api.TEnum {
		t.Errorf("P704: %s: %+v, want %s", typ, f, want)
	}
	if told(s) != told(m) {
		t.Errorf("P704: %s: answers\n%s\nwant\n%s", typ, told(s), told(m))
	}
}

func TestScalars(t *testing.T) { // P704: the scalars' words, whatever else has such a name
	all := words[1:]
	if len(all) != api.TBytes {
		t.Fatal("not all words")
	}
	var fields, types, others string
	for i, word := range all {
		fields += fmt.Sprintf("%s a%d = %d; repeated %s b%d = %d; .%s c%d = %d; map<string, %s> d%d = %d; %s.%s e%d = %d;", word, i, 10*i+1, word, i, 10*i+2, word, i, 10*i+3, word, i, 10*i+4, word, word, i, 10*i+5)
		types += "message " + word + " { message " + word + " { } }"
		others += "enum " + word + " { Z" + word + " = 0; }"
	}
	s := load(t, texts("a", "message M { "+fields+" } "+types, "b", "package p; message M { repeated int32 a = 1; "+others+" }"))
	for i, word := range all {
		for _, f := range []struct {
			number int
			want   api.Field
		}{
			{10*i + 1, api.Field{Name: fmt.Sprint("a", i), Card: api.CSingle, Type: i + 1}},
			{10*i + 2, api.Field{Name: fmt.Sprint("b", i), Card: api.CRepeated, Type: i + 1}},
			{10*i + 3, api.Field{Name: fmt.Sprint("c", i), Card: api.CSingle, Type: api.TMessage, Of: word}},
			{10*i + 4, api.Field{Name: fmt.Sprint("d", i), Card: api.CMap, Key: api.TString, Type: i + 1}},
			{10*i + 5, api.Field{Name: fmt.Sprint("e", i), Card: api.CSingle, Type: api.TMessage, Of: word + "." + word}},
		} {
			f.want.Number, f.want.Json = f.number, f.want.Name
			if got, e := s.Field("M", f.number); got != f.want || e != api.OK {
				t.Errorf("P704: %+v, %v, want %+v", got, e, f.want)
			}
		}
	}
	for _, word := range []string{"Int32", "int", "int128", "string_", "void", "any"} {
		refused(t, "no scalar", texts("a", "message M { "+word+" x = 1; }"), fault(api.ErrUnknown, 0, "M.x"))
	}
}

// world are sources with types in many scopes; the field x stands in p.q.M.N.
func world() []api.Source {
	return texts(
		"a", "package p.q; import 'b'; import 'd'; import 'e'; message M { message N { %T x = 1; message I { } } message K { } enum E { Z = 0; } } message K { message J { } } enum F { Z = 0; } message q { }",
		"b", "package p; import 'c'; message K { message B { } } message B { enum E { Z = 0; } }",
		"c", "package c.d; message T { } message K { }",
		"d", "message K { message L { } } message D { message K { } } enum G { Z = 0; } message M { message X { } }",
		"e", "package p.r.s; message S { }",
		"f", "package p.q; message Far { } enum K2 { Z = 0; }",
	)
}

func TestScopes(t *testing.T) { // P704: types with and without a dot ahead
	for typ, want := range map[string]string{
		// without a dot: the nearest scope that has the first name
		"N": "p.q.M.N", "I": "p.q.M.N.I", "K": "p.q.M.K", "E": "p.q.M.E", "F": "p.q.F", "M": "p.q.M", "q": "p.q.q", "B": "p.B", "D": "D", "G": "G",
		"N.I": "p.q.M.N.I", "M.N": "p.q.M.N", "M.K": "p.q.M.K", "B.E": "p.B.E", "D.K": "D.K", "M.N.I": "p.q.M.N.I",
		// it decides, also where a farther one would have the whole
		"K.J": "unknown", "K.L": "unknown", "K.B": "unknown", "M.X": "unknown", "q.K": "unknown", "q.M": "unknown", "B.B": "unknown", "N.K": "unknown", "E.Z": "unknown",
		// package parts decide where names follow them
		"p.K": "p.K", "p.q.K": "p.q.K", "p.q.K.J": "p.q.K.J", "p.q.q": "p.q.q", "p.B.E": "p.B.E", "p.q.M.N.I": "p.q.M.N.I", "r.s.S": "p.r.s.S", "p.r.s.S": "p.r.s.S",
		"r.S": "unknown", "r.s.T": "unknown", "p.S": "unknown", "p.q.B": "unknown", "p.D": "unknown",
		// a package part is no type
		"p": "notype", "r": "notype", "p.q": "notype", "p.r": "notype", "r.s": "notype", "p.r.s": "notype", ".p": "notype", ".p.q": "notype", ".p.r": "notype", ".p.r.s": "notype",
		// with a dot: the full name, and no other
		".K": "K", ".p.K": "p.K", ".p.q.K": "p.q.K", ".p.q.M.K": "p.q.M.K", ".K.L": "K.L", ".p.q.K.J": "p.q.K.J", ".p.q.q": "p.q.q", ".G": "G", ".p.r.s.S": "p.r.s.S", ".M": "M", ".M.X": "M.X", ".D.K": "D.K",
		".N": "unknown", ".q": "unknown", ".q.K": "unknown", ".r.s.S": "unknown", ".I": "unknown", ".B": "unknown", ".p.q.M.N.K": "unknown", ".G.Z": "unknown", ".p.q.M.E.Z": "unknown", ".r": "unknown",
		// not visible: what b imports, what nobody imports, though its package is known
		"c.d.T": "unknown", ".c.d.T": "unknown", "T": "unknown", "c": "unknown", "c.d": "unknown", ".c": "unknown", ".c.d": "unknown", "d.T": "unknown",
		"Far": "unknown", "p.q.Far": "unknown", ".p.q.Far": "unknown", ".p.q.K2": "unknown",
		// nothing of that name; longer than a full name may be
		"None": "unknown", ".None": "unknown", "s": "unknown", "S": "unknown", "x": "unknown", "Z": "unknown", ".x": "unknown", "p.None": "unknown", "k": "unknown", "p.q.M.N.x": "unknown",
		strings.Repeat("n", 255): "unknown", "M." + strings.Repeat("n", 253): "unknown", "." + strings.Repeat("n", 254): "unknown",
	} {
		typeIs(t, world(), "p.q.M.N", typ, want)
	}
	deep := texts("a", "message M { message N { message M { %T x = 1; message K { } } message K { } } message L { message M { } } } message K { message M { } }")
	for typ, want := range map[string]string{
		"M": "M.N.M", "K": "M.N.M.K", "N": "M.N", "L": "M.L", "L.M": "M.L.M", "M.K": "M.N.M.K", "N.K": "M.N.K", "N.M": "M.N.M", "N.M.K": "M.N.M.K", ".K": "K", ".M": "M", ".K.M": "K.M", "M.N": "unknown", "K.M": "unknown", "M.L": "unknown",
	} {
		typeIs(t, deep, "M.N.M", typ, want)
	}
}

func TestParts(t *testing.T) { // P704: package parts that hide, and that do not
	inner := texts("a", "package p.q.p; import 'b'; import 'c'; message M { %T x = 1; }", "b", "package p; message K { }", "c", "message q { } message X { }")
	for typ, want := range map[string]string{
		"p.K": "unknown", ".p.K": "p.K", "K": "p.K", "p.M": "p.q.p.M", "p": "notype", "q": "q", "q.p": "notype", "q.p.M": "p.q.p.M", "p.q": "unknown", ".p.q": "notype", "X": "X", "p.q.p.M": "unknown", "q.K": "unknown",
	} {
		typeIs(t, inner, "p.q.p.M", typ, want)
	}
	// Not told by the source's own package alone: a part of an imported source's package, in a scope of this one.
	beside := texts("a", "package p; import 'b'; message M { %T x = 1; }", "b", "package p.K; message L { }", "c", "message K { message L { } }")
	for typ, want := range map[string]string{"K": "notype", "K.L": "p.K.L", "K.M": "unknown", "p.K": "notype", "p.K.L": "p.K.L", ".K": "unknown", ".K.L": "unknown"} {
		typeIs(t, beside, "p.M", typ, want)
	}
	beside[0].Text = strings.Replace(beside[0].Text, "import 'b'", "import 'c'", 1)
	for typ, want := range map[string]string{"K": "K", "K.L": "K.L", "K.M": "unknown", "p.K": "unknown", "p.K.L": "unknown", ".p.K": "unknown"} {
		typeIs(t, beside, "p.M", typ, want)
	}
	beside[0].Text = strings.Replace(beside[0].Text, "import 'c'", "import 'b'; import 'c'", 1)
	for typ, want := range map[string]string{"K": "K", "K.L": "p.K.L", ".K.L": "K.L", ".p.K": "notype"} {
		typeIs(t, beside, "p.M", typ, want)
	}
	alone := texts("a", "import 'b'; message M { %T x = 1; }", "b", "package b.c;")
	for typ, want := range map[string]string{"b": "notype", "b.c": "notype", ".b": "notype", ".b.c": "notype", "c": "unknown", "b.M": "unknown", "M": "M"} {
		typeIs(t, alone, "M", typ, want)
	}
}

func TestFieldsThatName(t *testing.T) { // P704, P701: types of fields of every card, and the first that names nothing
	for _, form := range []string{"%s x = 2;", "optional %s x = 2;", "repeated %s x = 2;", "map<string, %s> x = 2;", "oneof o { %s x = 2; }"} {
		for typ, e := range map[string]api.Errno{"M": api.OK, "E": api.OK, ".M": api.OK, "None": api.ErrUnknown, ".None": api.ErrUnknown, "p": api.ErrNoType, ".p": api.ErrNoType, "p.None": api.ErrUnknown} {
			body := "bool a = 9; " + fmt.Sprintf(form, typ)
			l := texts("a", "", "b", "import 'c'; enum E { Z = 0; } message M { "+body+" Gone y = 3; }", "c", "package p;")
			if e == api.OK {
				l[1].Text = strings.Replace(l[1].Text, "Gone", "bool", 1)
			}
			check(t, body, l, 1, "M", e, "x")
		}
	}
	refused(t, "a key is looked at earlier", texts("a", "message M { None x = 1; map<None, None> y = 2; }"), fault(api.ErrMapKey, 0, "M.y"))
}

// small are sources, with few names in many scopes; the field x of type %T stands in one message of the first of them, whose full name is told too.
func small(seed int64) ([]api.Source, string) {
	r := rand.New(rand.NewSource(seed))
	packs, taken := []string{}, map[string]bool{}
	for range 3 {
		pack := []string{"", "", "a", "b", "a.a", "a.b", "b.a", "a.b.a"}[r.Intn(8)]
		packs = append(packs, pack)
		for _, part := range partsOf(pack) {
			taken[part] = true
		}
	}
	var in []string
	var messages func(scope string, deep int) string
	messages = func(scope string, deep int) string {
		text := ""
		for _, name := range []string{"a", "b", "c"} {
			full := strings.TrimPrefix(scope+"."+name, ".")
			switch {
			case taken[full] || r.Intn(deep) > 0:
			case r.Intn(5) == 0:
				text += "enum " + name + " { z = 0; } "
				taken[full] = true
			default:
				taken[full] = true
				in = append(in, full)
				text += "message " + name + " { $" + full + "$ " + messages(full, deep+1) + " } "
			}
		}
		return text
	}
	var l []string
	for i, pack := range packs {
		text := either(pack == "", "", "package "+pack+"; ") + either(r.Intn(3) > 0 && i != 1, "import '1'; ", "") + either(r.Intn(3) > 0 && i != 2, "import '2'; ", "") + messages(pack, 1)
		l = append(l, fmt.Sprint(i), text)
		if i == 0 && len(in) == 0 {
			return nil, ""
		}
		if i == 0 {
			in = []string{in[r.Intn(len(in))]}
			l[1] = strings.Replace(text, "$"+in[0]+"$", "%T x = 1;", 1)
		}
	}
	sources := texts(l...)
	for i := range sources {
		names := strings.Split(sources[i].Text, "$")
		for j := 1; j < len(names); j += 2 {
			names[j] = ""
		}
		sources[i].Text = strings.Join(names, "")
	}
	return sources, in[0]
}

func TestAllTypes(t *testing.T) { // P704: all types of few names, in sources of few names, against the second reading
	var all []string
	for _, one := range []string{"a", "b", "c"} {
		all = append(all, one)
		for _, two := range []string{"a", "b"} {
			all = append(all, one+"."+two)
			for _, three := range []string{"a", "b"} {
				all = append(all, one+"."+two+"."+three)
			}
		}
	}
	faults := map[api.Errno]int{}
	for seed := range int64(150) {
		sources, in := small(seed)
		if in == "" {
			continue
		}
		for _, typ := range all {
			for _, typ := range []string{typ, "." + typ} {
				l := slices.Clone(sources)
				l[0].Text = strings.Replace(l[0].Text, "%T", typ, 1)
				m, want := loadSecond(l)
				s, bad := bind.Load(l)
				if faults[bad.Err]++; bad != want {
					t.Fatalf("P704: seed %d: %s: %q: %+v, want %+v", seed, typ, l, bad, want)
				}
				if s == nil {
					continue
				}
				f, e := s.Field(in, 1)
				g, _ := m.Field(in, 1)
				if f != g || e != api.OK {
					t.Fatalf("P704: seed %d: %s: %q: %+v, want %+v", seed, typ, l, f, g)
				}
			}
		}
	}
	if faults[api.OK] < 500 || faults[api.ErrUnknown] < 500 || faults[api.ErrNoType] < 200 || len(faults) > 3 {
		t.Errorf("the small sources do not show all: %v", faults)
	}
}
