package diff_test

import (
	"fmt"
	"strings"
	"testing"

	"sigil/api"
	"sigil/bind"
	"sigil/diff"
)

// The changes.
func added(typ string, number int, now string) api.Change {
	return api.Change{Kind: api.CAdded, Type: typ, Number: number, New: now}
}
func gone(typ string, number int, old string) api.Change {
	return api.Change{Kind: api.CGone, Type: typ, Number: number, Old: old}
}
func from(kind int, typ string, number int, old, now string) api.Change {
	return api.Change{Kind: kind, Type: typ, Number: number, Old: old, New: now}
}

// between looks at the changes between two schemas of one source each.
func between(t *testing.T, old, now string, want ...api.Change) {
	t.Helper()
	changes(t, proto(t, old), proto(t, now), want...)
}

func TestNames(t *testing.T) { // P1908: names in the one alone, in both, a message in the one and an enum in the other; in rising order
	between(t, "", "")
	between(t, "message M { }", "message M { }")
	between(t, "", "message M { }", added("M", 0, "message"))
	between(t, "", "enum E { Z = 0; }", added("E", 0, "enum"))
	between(t, "message M { int32 a = 1; reserved 2; }", "", gone("M", 0, "message"))
	between(t, "enum E { Z = 0; A = 1; }", "", gone("E", 0, "enum"))
	between(t, "message M { int32 a = 1; reserved 2; }", "enum M { Z = 0; A = 1; reserved 7; }", from(api.CType, "M", 0, "message", "enum"))
	between(t, "enum M { Z = 0; }", "message M { }", from(api.CType, "M", 0, "enum", "message"))
	// Messages and enums stand among one another; a dot comes ahead of letters, an underscore behind capital ones.
	between(t, "message B { } enum A { Z = 0; } message M { message N { } enum O { Z = 0; } } message M_ { } message MA { } message C { }", "message C { } enum D { Z = 0; } message c { }",
		gone("A", 0, "enum"), gone("B", 0, "message"), added("D", 0, "enum"), gone("M", 0, "message"), gone("M.N", 0, "message"), gone("M.O", 0, "enum"), gone("MA", 0, "message"), gone("M_", 0, "message"), added("c", 0, "message"))
	between(t, "package p; message M { message N { enum E { Z = 0; } } }", "package p; message M { message N { } }", gone("p.M.N.E", 0, "enum"))
	between(t, "package p; message M { }", "package q; message M { }", gone("p.M", 0, "message"), added("q.M", 0, "message"))
	between(t, "message M { message N { } }", "message M { enum N { Z = 0; } }", from(api.CType, "M.N", 0, "message", "enum"))
}

func TestEachChange(t *testing.T) { // P1908: each kind of change of a field by itself
	for _, c := range []struct {
		old, now string
		want     []api.Change
	}{
		{"int32 a = 1;", "", []api.Change{gone("M", 1, "int32 a")}},
		{"", "int32 a = 1;", []api.Change{added("M", 1, "int32 a")}},
		{"int32 a = 1;", "sint32 a = 1;", []api.Change{from(api.CType, "M", 1, "int32", "sint32")}},
		{"int32 a = 1;", "optional int32 a = 1;", []api.Change{from(api.CCard, "M", 1, "single", "optional")}},
		{"optional int32 a = 1;", "repeated int32 a = 1;", []api.Change{from(api.CCard, "M", 1, "optional", "repeated")}},
		{"repeated int32 a = 1;", "int32 a = 1;", []api.Change{from(api.CCard, "M", 1, "repeated", "single")}},
		{"int32 a = 1;", "map<int32, int32> a = 1;", []api.Change{from(api.CType, "M", 1, "int32", "map<int32, int32>"), from(api.CCard, "M", 1, "single", "map")}},
		{"map<int32, int32> a = 1;", "map<int32, int64> a = 1;", []api.Change{from(api.CType, "M", 1, "map<int32, int32>", "map<int32, int64>")}},
		{"map<int32, int32> a = 1;", "map<int64, int32> a = 1;", []api.Change{from(api.CType, "M", 1, "map<int32, int32>", "map<int64, int32>")}},
		{"int32 a = 1;", "int32 b = 1;", []api.Change{from(api.CName, "M", 1, "a", "b")}},
		{"int32 a_b = 1;", "int32 aB = 1;", []api.Change{from(api.CName, "M", 1, "a_b", "aB")}},
		{"int32 a = 1;", "oneof o { int32 a = 1; }", []api.Change{from(api.COneof, "M", 1, "", "o")}},
		{"oneof o { int32 a = 1; }", "int32 a = 1;", []api.Change{from(api.COneof, "M", 1, "o", "")}},
		{"oneof o { int32 a = 1; }", "oneof p { int32 a = 1; }", []api.Change{from(api.COneof, "M", 1, "o", "p")}},
		{"oneof o { int32 a = 1; }", "optional int32 a = 1;", []api.Change{from(api.CCard, "M", 1, "single", "optional"), from(api.COneof, "M", 1, "o", "")}},
		{"reserved 1;", "", []api.Change{from(api.CReserved, "M", 0, "1", "")}},
		{"", `reserved "a";`, []api.Change{from(api.CReserved, "M", 0, "", `"a"`)}},
		{"int32 a = 1;", "int32 a = 2;", []api.Change{gone("M", 1, "int32 a"), added("M", 2, "int32 a")}},
	} {
		between(t, "message M { "+c.old+" }", "message M { "+c.now+" }", c.want...)
		within := func(in string) string {
			return "package p.q; message A { message M { " + in + " } enum E { Z = 0; } } message B { A.M m = 1; }"
		}
		var want []api.Change
		for _, change := range c.want {
			change.Type = "p.q.A.M"
			want = append(want, change)
		}
		between(t, within(c.old), within(c.now), want...)
	}
}

func TestSeveralChanges(t *testing.T) { // P1908: several at one field, in their order; fields by rising number; what is reserved behind them
	between(t, "message M { int32 a = 1; }", "message M { oneof o { string b = 1; } }",
		from(api.CType, "M", 1, "int32", "string"), from(api.CName, "M", 1, "a", "b"), from(api.COneof, "M", 1, "", "o"))
	between(t, "message M { oneof o { M a = 1; } reserved 4; }", "message M { map<bool, bytes> b = 1; reserved 5; }",
		from(api.CType, "M", 1, ".M", "map<bool, bytes>"), from(api.CCard, "M", 1, "single", "map"), from(api.CName, "M", 1, "a", "b"), from(api.COneof, "M", 1, "o", ""), from(api.CReserved, "M", 0, "4", "5"))
	between(t, "message M { int32 z = 536870911; int32 y = 20; int32 x = 3; int32 w = 1; } message L { }", "message M { int32 v = 536870911; int64 y = 20; int32 u = 10; int32 q = 2; } message N { }",
		gone("L", 0, "message"), gone("M", 1, "int32 w"), added("M", 2, "int32 q"), gone("M", 3, "int32 x"), added("M", 10, "int32 u"), from(api.CType, "M", 20, "int32", "int64"), from(api.CName, "M", 536870911, "z", "v"), added("N", 0, "message"))
	// Members that change places between oneofs, of which the numbers rise in another order.
	between(t, "message M { oneof o { int32 a = 1; int32 b = 4; } oneof p { int32 c = 2; int32 d = 3; } }", "message M { oneof p { int32 b = 4; int32 c = 2; } oneof o { int32 d = 3; } int32 a = 1; }",
		from(api.COneof, "M", 1, "o", ""), from(api.COneof, "M", 3, "p", "o"), from(api.COneof, "M", 4, "o", "p"))
	// All members stay, the oneofs' places change.
	between(t, "message M { oneof o { int32 a = 1; int32 b = 4; } oneof p { int32 c = 2; } }", "message M { oneof o { int32 b = 4; } oneof p { int32 c = 2; } }", gone("M", 1, "int32 a"))
}

func TestWords(t *testing.T) { // P1907: the words of all types and cards, alone and in maps
	const rest = " enum E { Z = 0; } message W { }"
	word := func(typ int) string {
		if typ >= api.TEnum {
			return "." + words[typ]
		}
		return words[typ]
	}
	for typ := api.TDouble; typ <= api.TMessage; typ++ {
		for card, before := range map[int]string{api.CSingle: "", api.COptional: "optional ", api.CRepeated: "repeated "} {
			between(t, "message M { }"+rest, fmt.Sprintf("message M { %s%s f = 9; }%s", before, words[typ], rest), added("M", 9, before+word(typ)+" f"))
			if card == api.CSingle {
				between(t, "message M { }"+rest, fmt.Sprintf("message M { oneof o { %s f = 9; } }%s", words[typ], rest), added("M", 9, word(typ)+" f"))
			}
		}
		for _, key := range keyTypes {
			text := fmt.Sprintf("map<%s, %s>", words[key], word(typ))
			between(t, fmt.Sprintf("message M { map<%s, %s> f = 9; }%s", words[key], words[typ], rest), "message M { }"+rest, gone("M", 9, text+" f"))
			between(t, fmt.Sprintf("message M { map<%s, %s> f = 9; }%s", words[key], words[typ], rest), "message M { repeated bytes f = 9; }"+rest,
				from(api.CType, "M", 9, text, "bytes"), from(api.CCard, "M", 9, "map", "repeated"))
		}
		for second := api.TDouble; second < typ; second++ {
			between(t, fmt.Sprintf("message M { repeated %s f = 9; }%s", words[typ], rest), fmt.Sprintf("message M { repeated %s f = 9; }%s", words[second], rest), from(api.CType, "M", 9, word(typ), word(second)))
		}
	}
	between(t, "package p.q; message M { N.O a = 1; } message N { message O { } enum P { Z = 0; } }", "package p.q; message M { N.P a = 1; } message N { message O { } enum P { Z = 0; } }",
		from(api.CType, "p.q.M", 1, ".p.q.N.O", ".p.q.N.P"))
	// A type's word is its name alone, whatever has that name.
	between(t, "message M { N n = 1; } message N { }", "message M { N n = 1; } enum N { Z = 0; }", from(api.CType, "N", 0, "message", "enum"))
}

func TestReserved(t *testing.T) { // P1907, P1908: rows and names that are reserved in messages and in enums; those with the same text are the same
	for want, l := range map[string][]string{
		"5":                       {"reserved 5;"},
		"5 to 7":                  {"reserved 5 to 7;", "reserved 7, 5, 6;", "reserved 5; reserved 6 to 7;"},
		"5, 7":                    {"reserved 5, 7;", "reserved 7; reserved 5;"},
		"9 to max":                {"reserved 9 to max;", "reserved 10 to max, 9;"},
		"1 to max":                {"reserved 1 to max;"},
		"1 to 2, 4, 9 to max":     {"reserved 9 to max, 4; reserved 1 to 2;", "reserved 4, 2, 1, 9, 10 to max;"},
		"19000 to 19999":          {"reserved 19000 to 19999;"},
		"536870909 to 536870910":  {"reserved 536870909 to 536870910;"},
		`"a", "b"`:                {`reserved "b", "a";`, `reserved "a"; reserved 'b';`},
		`1, 3, "z"`:               {`reserved "z"; reserved 3, 1;`, `reserved 3; reserved "\x7a"; reserved 1;`},
		`5 to 6, "X", "_", "x_1"`: {`reserved 'x_1', "X", "_"; reserved 5, 6;`},
		`2, 4 to 5, "max", "to"`:  {`reserved "to", "max"; reserved 4 to 5, 2;`},
	} {
		for _, in := range l {
			between(t, "message M { "+in+" }", "message M { }", from(api.CReserved, "M", 0, want, ""))
			between(t, "message M { }", "message M { "+in+" }", from(api.CReserved, "M", 0, "", want))
			between(t, "message M { "+in+" }", "message M { "+l[0]+" }")
			between(t, "message M { "+in+" }", "message M { reserved 99999 to 100000; }", from(api.CReserved, "M", 0, want, "99999 to 100000"))
			between(t, "enum E { Z = 0; "+in+" }", "enum E { Z = 0; }", from(api.CReserved, "E", 0, want, ""))
			between(t, "enum E { Z = 0; "+in+" }", "enum E { "+l[0]+" Z = 0; }")
		}
	}
	// The greatest number is another one in messages and in enums.
	between(t, "message M { reserved 7 to 536870911; }", "message M { reserved 536870911; }", from(api.CReserved, "M", 0, "7 to max", "536870911"))
	between(t, "enum E { Z = 0; reserved 7 to 536870911; }", "enum E { Z = 0; reserved 7 to 2147483647; }", from(api.CReserved, "E", 0, "7 to 536870911", "7 to max"))
	between(t, "enum E { Z = 0; reserved 2147483647; }", "enum E { Z = 0; reserved 2147483646 to max; }", from(api.CReserved, "E", 0, "2147483647", "2147483646 to max"))
	between(t, "enum E { Z = 0; reserved -2147483648; }", "enum E { Z = 0; reserved -2147483648 to -1, 1 to max; }", from(api.CReserved, "E", 0, "-2147483648", "-2147483648 to -1, 1 to max"))
	between(t, "enum E { Z = 0; reserved -3, -5; }", "enum E { Z = 0; reserved -3, -5, -4; }", from(api.CReserved, "E", 0, "-5, -3", "-5 to -3"))
	between(t, `message M { int32 a = 1; }`, `message M { reserved 1; reserved "a"; }`, gone("M", 1, "int32 a"), from(api.CReserved, "M", 0, "", `1, "a"`))
}

func TestEnums(t *testing.T) { // P1908: the values of enums, by rising number: those below zero come first
	between(t, "enum E { Z = 0; A = 1; }", "enum E { Z = 0; A = 1; }")
	between(t, "enum E { Z = 0; }", "enum E { Z = 0; A = 1; }", added("E", 1, "A"))
	between(t, "enum E { Z = 0; A = -2147483648; }", "enum E { Z = 0; B = 2147483647; }", gone("E", -2147483648, "A"), added("E", 2147483647, "B"))
	between(t, "enum E { Z = 0; A = 1; }", "enum E { A = 0; Z = 1; }", from(api.CName, "E", 0, "Z", "A"), from(api.CName, "E", 1, "A", "Z"))
	between(t, "enum E { Z = 0; A = -1; B = 3; C = -7; reserved 9; }", "enum E { Y = 0; D = -2; X = 3; C = -7; E = 5; reserved 8; }",
		added("E", -2, "D"), gone("E", -1, "A"), from(api.CName, "E", 0, "Z", "Y"), from(api.CName, "E", 3, "B", "X"), added("E", 5, "E"), from(api.CReserved, "E", 0, "9", "8"))
	between(t, "enum E { Z = 0; A = 2; B = 1; }", "enum E { Z = 0; B = 1; A = 2; }")
}

func TestSameDeclared(t *testing.T) { // P1909: what is declared alike, in whatever order, however spread and written
	one := sources(t, `syntax = "proto3"; package p; import "g"; message M { int32 a = 1; q.N n = 2; oneof o { bool x = 7; bool y = 5; } reserved 9, 8; } enum E { Z = 0; A = -1; B = 1; }`, `syntax = "proto3"; package q; message N { message I { } I i = 1; }`)
	two := sources(t, `syntax = "proto3"; package q; // a remark
message N { I i = 1; message I { } }`, `syntax = "proto3"; import "f"; package p; enum E { Z = 0; B = 1; A = -1; } message M { reserved 8 to 9; .q.N n = 2; oneof o { bool y = 5; bool x = 7; } int32 a = 1; }`)
	changes(t, one, two)
	changes(t, sources(t), sources(t))
	changes(t, sources(t), sources(t, `syntax = "proto3"; package empty;`))
	changes(t, one, one)
	changes(t, one, sources(t), gone("p.E", 0, "enum"), gone("p.M", 0, "message"), gone("q.N", 0, "message"), gone("q.N.I", 0, "message"))
}

// sources is the schema of texts, with the names f, g ..
func sources(t *testing.T, texts ...string) *bind.Schema {
	t.Helper()
	var l []api.Source
	for i, text := range texts {
		l = append(l, api.Source{Name: string(rune('f' + i)), Text: text})
	}
	s, bad := bind.Load(l)
	if bad.Err != api.OK {
		t.Fatalf("Load: %+v", bad)
	}
	return s
}

func TestMostTypes(t *testing.T) { // P1908: MaxTypes types, MaxFields fields and values
	var old, now strings.Builder
	for i := range api.MaxTypes {
		fmt.Fprintf(&old, "message M%d { int32 a = 1; } ", i)
		fmt.Fprintf(&now, "enum N%d { Z = 0; } ", i)
	}
	l := diff.Schemas(proto(t, old.String()), proto(t, now.String()))
	if len(l) != 2*api.MaxTypes || l[0] != gone("M0", 0, "message") || l[511] != gone("M99", 0, "message") || l[512] != added("N0", 0, "enum") {
		t.Errorf("P1908: %d changes", len(l))
	}
	old.Reset()
	now.Reset()
	for i := range api.MaxFields {
		fmt.Fprintf(&old, "int32 a%d = %d; ", i, i+1)
		fmt.Fprintf(&now, "repeated M b%d = %d; ", i, i+1)
	}
	l = diff.Schemas(proto(t, "message M { "+old.String()+" }"), proto(t, "message M { "+now.String()+" }"))
	if len(l) != 3*api.MaxFields || l[1535] != from(api.CName, "M", 512, "a511", "b511") || l[1534] != from(api.CCard, "M", 512, "single", "repeated") || l[1533] != from(api.CType, "M", 512, "int32", ".M") {
		t.Errorf("P1908: %d changes", len(l))
	}
}
