package shell_test

import (
	"fmt"
	"slices"
	"strings"
	"testing"

	"sigil/api"
	"sigil/bind"
	"sigil/diff"
	"sigil/digest"
	"sigil/shell"
	"sigil/sign"
)

func TestSources(t *testing.T) { // P2005: source: how many are under way, for several names
	plays(t, "source s a x", "ok 1", "source s a x", "ok 2", "source r a x", "ok 1", "source s b y", "ok 3", `source "" "" ""`, "ok 1", "source r c z", "ok 2", "load s", `twice 1 0 "a"`, "source s a x", "ok 1", "source r c z", "ok 3", "load r", `twice 2 0 "c"`, `source "" a x`, "ok 2", `load ""`, `name 0 0 ""`)
	// MaxFiles of them and one more; those of another name are none of them.
	if api.MaxFiles != 16 {
		t.Fatal(api.MaxFiles)
	}
	var pairs []string
	for i := range 16 {
		pairs = append(pairs, source("s", fmt.Sprint("f", i), proto+fmt.Sprintf("message M%d { }", i)), fmt.Sprint("ok ", i+1))
	}
	pairs = append(pairs, source("s", "g", proto), "long", source("s", "f0", "x"), "long", "source r f x", "ok 1", source("s", "g", proto), "long")
	plays(t, slices.Concat(pairs, []string{"load s", "ok 16 0", "types s", `ok "M0" "M1" "M10" "M11" "M12" "M13" "M14" "M15" "M2" "M3" "M4" "M5" "M6" "M7" "M8" "M9"`, source("s", "g", proto), "ok 1", "load s", "ok 0 0", "types s", "ok"})...)
}

func TestLoad(t *testing.T) { // P2005: load: of none, of what is refused, of several sources; what was under way is gone
	plays(t,
		"load s", "ok 0 0", "types s", "ok", "texts s", "ok", "load s", "ok 0 0",
		source("s", "f", small), "ok 1", "load s", "ok 1 1", "types s", `ok "p.M"`,
		// Refused: the schema stays, the sources go.
		"source s f x", "ok 1", "load s", `syntax 0 0 ""`, "types s", `ok "p.M"`, "source s f x", "ok 1",
		// Of none: the schema without types takes its place.
		"load s", `syntax 0 0 ""`, "load s", "ok 0 0", "types s", "ok",
		// A name that has no schema, of sources that are refused.
		"source r f x", "ok 1", "load r", `syntax 0 0 ""`, "types r", "none", "load r", "ok 0 0", "types r", "ok",
	)
	// The order of the sources is that in which they came.
	plays(t, source("s", "b", proto+`import "a"; message B { A a = 1; }`), "ok 1", source("s", "a", proto+"message A { } enum E { Z = 0; } enum F { Y = 0; }"), "ok 2", source("r", "a", proto+"message A { }"), "ok 1", "load s", "ok 2 2", "types s", `ok "A" "B"`, "load r", "ok 1 0")
	for _, c := range []struct {
		sources []api.Source
		want    string
	}{
		{[]api.Source{{Name: "", Text: ""}}, `name 0 0 ""`},
		{[]api.Source{{Name: repeated("n", 256), Text: ""}}, `long 0 0 ""`},
		{[]api.Source{{Name: "a", Text: proto}, {Name: "a", Text: proto}}, `twice 1 0 "a"`},
		{[]api.Source{{Name: "a", Text: proto}, {Name: "b", Text: proto + "message M { int32 a; }"}}, `syntax 1 38 ""`},
		{[]api.Source{{Name: "a", Text: proto}, {Name: "b", Text: proto + "message M { é"}}, `char 1 31 ""`},
		{[]api.Source{{Name: "a", Text: proto}, {Name: "b", Text: proto + "message \xff"}}, `coding 1 27 ""`},
		{[]api.Source{{Name: "a", Text: "syntax"}}, `end 0 6 ""`},
		{[]api.Source{{Name: "a", Text: proto}, {Name: "b", Text: proto}, {Name: "c", Text: proto + `import "d\"é";`}}, `import 2 0 "d\"\xc3\xa9"`},
		{[]api.Source{{Name: "a", Text: proto + "package p.q; message M { repeated N n = 1; }"}}, `unknown 0 0 "p.q.M.n"`},
		{[]api.Source{{Name: "a", Text: proto + "message M { int32 a = 1; int32 b = 1; }"}}, `fieldnumber 0 0 "M.b"`},
		{[]api.Source{{Name: "a", Text: proto + "enum E { A = 1; }"}}, `enumvalue 0 0 "E"`},
	} {
		var pairs []string
		for i, s := range c.sources {
			pairs = append(pairs, source("s", s.Name, s.Text), fmt.Sprint("ok ", i+1))
		}
		_, bad := bind.Load(c.sources)
		if want := fmt.Sprint(bad.Err.Error(), " ", bad.File, " ", bad.At, " ", shell.Quote([]byte(bad.Name))); want != c.want {
			t.Errorf("P701: %s, want %s", want, c.want)
		}
		plays(t, append(pairs, "load s", c.want, "types s", "none")...)
	}
}

func TestTexts(t *testing.T) { // P2005: texts, types, mark: those of the schema, whatever it was loaded from
	files := []api.Source{{Name: "x", Text: proto + `import "y"; message B { p.A a = 1; enum E { Z = 0; } }`}, {Name: "y", Text: proto + "package p; message A { string \x69_d = 7; }  // a remark"}}
	s, bad := bind.Load(files)
	if bad.Err != api.OK {
		t.Fatal(bad)
	}
	want := "ok"
	for _, told := range s.Texts() {
		want += " " + word(told.Name) + " " + word(told.Text)
	}
	if !strings.HasPrefix(want, `ok "." "syntax = \"proto3\";\n`) {
		t.Fatal(want)
	}
	pairs := []string{source("s", "x", files[0].Text), "ok 1", source("s", "y", files[1].Text), "ok 2", "load s", "ok 2 1", "texts s", want, "types s", `ok "B" "p.A"`, "mark s", "ok " + digest.Hex(sign.Schema(s))}
	for i, told := range s.Texts() {
		pairs = append(pairs, source("r", told.Name, told.Text), fmt.Sprint("ok ", i+1))
	}
	plays(t, append(pairs, "load r", "ok 2 1", "texts r", want, "mark r", "ok "+digest.Hex(sign.Schema(s)), "changes s r", "ok", "load n", "ok 0 0", "mark n", "ok "+digest.Hex(sign.Schema(schema(t, proto))))...)
}

func TestCompat(t *testing.T) { // P2005: compat: fine, each broken rule with its path, its errors
	old := proto + "message M { int32 a = 1; string b = 2; M m = 3; map<int32, N> n = 4; int32 x = 536870911; } message N { sint32 y = 7; }"
	pairs := loaded("s", old)
	for i, c := range []struct{ text, want string }{
		{old, "ok"}, {strings.Replace(old, "int32 a", "int64 a", 1), "ok"}, {strings.Replace(old, "int32 a", "uint32 a", 1), "break 2 1"}, {strings.Replace(old, "int32 a = 1;", "", 1), "break 1 1"}, {strings.Replace(old, "int32 a = 1;", "reserved 1;", 1), "ok"},
		{strings.Replace(old, "M m", "string m", 1), "break 6 3"}, {strings.Replace(old, "M m", "map<string, M> m", 1), "break 3 3"}, {strings.Replace(old, "map<int32", "map<string", 1), "break 4 4"}, {strings.Replace(old, "sint32 y", "int32 y", 1), "break 2 4.7"}, {strings.Replace(old, "int32 x", "string x", 1), "break 2 536870911"},
		{strings.Replace(old, "int32 a = 1; string b = 2;", "oneof o { int32 a = 1; string b = 2; }", 1), "break 5 1"},
	} {
		name := fmt.Sprint("q", i)
		pairs = append(pairs, loaded(name, c.text)...)
		pairs = append(pairs, "compat s M "+name+" M", c.want)
	}
	long := repeated("M", 256)
	pairs = append(pairs, "compat s M s M", "ok", "compat s M s N", "break 1 1", "compat s none q0 M", "name", "compat s M q0 none", "name", "compat s "+long+" q0 none", "long", "compat s none q0 "+long, "name", "compat s M q0 "+long, "long", `compat s "" s M`, "name")
	plays(t, pairs...)
	// More pairs of types meet than may be.
	ring := func(letter string, n int) string {
		text := proto
		for i := range n {
			text += fmt.Sprintf("message %s%d{%s%d m=1;}", letter, i, letter, (i+1)%n)
		}
		return text
	}
	plays(t, slices.Concat(loaded("a", ring("A", 64)), loaded("b", ring("B", 65)), loaded("c", ring("C", 63)), []string{"compat a A0 b B0", "breaks", "compat c C0 a A0", "ok", "json t a A0 {}", "ok", "project t b B0 u", "breaks", "register x a A0", "ok 1", "register x b B0", "breaks", "try x b B0", "breaks"})...)
}

func TestChanges(t *testing.T) { // P2005: changes: what diff.Say says of each, quoted
	plays(t, slices.Concat(loaded("s", proto+"message M { int32 a = 1; } enum E { Z = 0; }"), loaded("q", proto+"message M { repeated int64 b = 1; reserved 2; reserved \"x\"; } message N { }"), []string{
		"changes s q", `ok "E 0: gone enum" "M 1: type int32 to int64" "M 1: card single to repeated" "M 1: name a to b" "M: reserved  to 2, \"x\"" "N 0: added message"`,
		"changes q s", `ok "E 0: added enum" "M 1: type int64 to int32" "M 1: card repeated to single" "M 1: name b to a" "M: reserved 2, \"x\" to " "N 0: gone message"`,
		"changes s s", "ok",
	})...)
	s, q := schema(t, small), schema(t, wider)
	want := "ok"
	for _, c := range diff.Schemas(s, q) {
		want += " " + word(diff.Say(c))
	}
	plays(t, slices.Concat(loaded("s", small), loaded("q", wider), []string{"changes s q", want})...)
}

func TestSchemasTakenPlace(t *testing.T) { // P2005: a schema takes another one's place; trees keep theirs
	plays(t, slices.Concat(loaded("s", small), []string{line("json", "t", "s", "p.M", `{"a":1,"g":{"b":"x"}}`), "ok"}, loaded("s", proto+"message Other { }"), []string{
		"types s", `ok "Other"`, "show t", `ok "{\"a\":1,\"g\":{\"b\":\"x\"}}"`, "get t g", `ok message "{\"b\":\"x\"}"`, "encode t b", "ok 7", "strict b s p.M u", "name 0", "clear t a u", "ok", "show u", `ok "{\"g\":{\"b\":\"x\"}}"`, "load s", "ok 0 0", "show t", `ok "{\"a\":1,\"g\":{\"b\":\"x\"}}"`, "json v s Other {}", "name 0",
	})...)
}
