package bind_test

import (
	"fmt"
	"strconv"
	"strings"
	"testing"

	"sigil/api"
)

// inPlaces puts what stands in a message into messages of several scopes and sources, and hands on the sources, the place of that source and the message's full name.
func inPlaces(body string, check func(l []api.Source, file int, full string)) {
	check(texts("a", "message M { "+body+" }"), 0, "M")
	check(texts("a", "", "b", "package p.q; message A { } message O { message M { "+body+" } } enum E { Z = 0; }"), 1, "p.q.O.M")
}

// message looks at a message M that has these statements: it has the first fault, if one is told (its name is within M, or M's own if it is empty).
func message(t *testing.T, body string, e api.Errno, name string) {
	t.Helper()
	inPlaces(body, func(l []api.Source, file int, full string) {
		t.Helper()
		check(t, body, l, file, full, e, name)
	})
}

// enum looks at an enum, as message does.
func enum(t *testing.T, body string, e api.Errno, name string) {
	t.Helper()
	check(t, body, texts("a", "enum E { "+body+" }"), 0, "E", e, name)
	check(t, body, texts("a", "", "b", "package p.q; message O { message N { } enum E { "+body+" } }"), 1, "p.q.O.E", e, name)
}

func check(t *testing.T, body string, l []api.Source, file int, full string, e api.Errno, name string) {
	t.Helper()
	if e == api.OK {
		right(t, body, l)
		return
	}
	if name != "" {
		full += "." + name
	}
	refused(t, body, l, fault(e, file, full))
}

func TestMessageItself(t *testing.T) { // P702: each rule alone
	message(t, "", api.OK, "")
	fields := func(n int) string { return numbered(n, "bool f%[1]d = 1%03[1]d;") }
	message(t, fields(512), api.OK, "")
	message(t, fields(513), api.ErrTypes, "")
	message(t, fields(400)+"oneof o { "+strings.ReplaceAll(fields(113), "= 1", "= 2")+" }", api.ErrTypes, "")
	message(t, fields(400)+"oneof o { "+strings.ReplaceAll(strings.ReplaceAll(fields(112), "= 1", "= 2"), "f", "g")+" }", api.OK, "")
	message(t, "reserved 5 to 7, 7;", api.ErrReserved, "")
	message(t, "reserved 5 to 7, 8;", api.OK, "")
	message(t, "reserved 8, 5 to 7;", api.OK, "")
	message(t, "reserved 5, 5;", api.ErrReserved, "")
	message(t, "reserved 5; reserved 9; reserved 1; reserved 5;", api.ErrReserved, "")
	message(t, "reserved 7 to 9, 1 to 100, 200;", api.ErrReserved, "")
	message(t, "reserved 1 to 100, 7 to 9;", api.ErrReserved, "")
	message(t, "reserved 1 to 100, 50 to 150;", api.ErrReserved, "")
	message(t, "reserved 50 to 150, 1 to 50;", api.ErrReserved, "")
	message(t, "reserved 50 to 150, 1 to 49;", api.OK, "")
	message(t, "reserved 1 to max, 536870911;", api.ErrReserved, "")
	message(t, "reserved 1 to 536870910, 536870911;", api.OK, "")
	message(t, "reserved 10 to max, 9 to 10;", api.ErrReserved, "")
	message(t, "reserved 19000 to 19999;", api.OK, "")
	message(t, `reserved "a", "b", "a";`, api.ErrReserved, "")
	message(t, `reserved "a"; reserved "a";`, api.ErrReserved, "")
	message(t, `reserved "a", "A", "aa", "a_";`, api.OK, "")
	message(t, "oneof o { bool a = 1; } oneof o { bool b = 2; }", api.ErrTwice, "o")
	message(t, "oneof o { bool a = 1; } oneof p { bool b = 2; } oneof o { bool c = 3; }", api.ErrTwice, "o")
	message(t, "oneof o { bool a = 1; } oneof p { bool b = 2; }", api.OK, "")
	message(t, "oneof N { bool a = 1; } message N { }", api.ErrTwice, "N")
	message(t, "message N { } oneof o { bool b = 2; } oneof N { bool a = 1; }", api.ErrTwice, "N")
	message(t, "oneof N { bool a = 1; } enum N { Z = 0; }", api.ErrTwice, "N")
	message(t, "oneof M { bool a = 1; }", api.OK, "")
	message(t, "oneof O { bool a = 1; } message N { message O { } enum p { q = 0; } } oneof p { bool b = 2; } oneof q { bool c = 3; }", api.OK, "")
}

func TestFieldItself(t *testing.T) { // P702: each rule of fields alone
	message(t, "bool a = 1; bool b = 2; string a = 3;", api.ErrTwice, "a")
	message(t, "bool a = 1; oneof o { string a = 3; }", api.ErrTwice, "a")
	message(t, "oneof o { string a = 3; } repeated bool a = 1;", api.ErrTwice, "a")
	message(t, "oneof a { bool a = 1; }", api.ErrTwice, "a")
	message(t, "bool a = 2; oneof a { bool b = 1; }", api.ErrTwice, "a")
	message(t, "oneof a { bool b = 1; } bool a = 2;", api.ErrTwice, "a")
	message(t, "bool N = 1; message N { }", api.ErrTwice, "N")
	message(t, "bool N = 1; enum N { Z = 0; }", api.ErrTwice, "N")
	message(t, "message O { } enum P { Z = 0; } message N { } bool N = 1;", api.ErrTwice, "N")
	message(t, "message N { bool a = 1; message b { } enum c { d = 0; } oneof e { bool f = 2; } } bool a = 1; bool b = 2; bool c = 3; bool d = 4; bool e = 5; bool f = 6; bool M = 7;", api.OK, "")
	for _, n := range []int{1, 2, 18999, 20000, 536870910, 536870911} {
		message(t, fmt.Sprintf("bool a = %d;", n), api.OK, "")
		message(t, fmt.Sprintf("bool a = %d; bool b = %d;", n, n), api.ErrFieldNumber, "b")
	}
	for _, n := range []int{0, 19000, 19001, 19500, 19998, 19999, 536870912, 2147483647} {
		message(t, fmt.Sprintf("bool a = %d;", n), api.ErrFieldNumber, "a")
		message(t, fmt.Sprintf("bool c = 1; oneof o { bool b = 2; bool a = %d; }", n), api.ErrFieldNumber, "a")
	}
	for n := 18990; n <= 20010; n++ {
		e := api.OK
		if n >= 19000 && n <= 19999 {
			e = api.ErrFieldNumber
		}
		check(t, "a number", texts("a", fmt.Sprintf("message M { bool a = %d; }", n)), 0, "M", e, "a")
	}
	message(t, "bool a = 1; bool b = 2; oneof o { bool c = 1; }", api.ErrFieldNumber, "c")
	message(t, "bool a = 01; bool b = 0x1;", api.ErrFieldNumber, "b")
	message(t, "reserved 5; bool a = 5;", api.ErrReserved, "a")
	message(t, "bool a = 5; reserved 5;", api.ErrReserved, "a")
	message(t, "reserved 2, 5 to 7; bool c = 1; bool d = 3; bool e = 4; bool f = 8; bool a = 7;", api.ErrReserved, "a")
	message(t, "reserved 2, 5 to 7; bool c = 1; bool d = 3; bool e = 4; bool f = 8; bool a = 5;", api.ErrReserved, "a")
	message(t, "reserved 2, 5 to 7; bool c = 1; bool d = 3; bool e = 4; bool f = 8; bool a = 6;", api.ErrReserved, "a")
	message(t, "reserved 2, 5 to 7; bool c = 1; bool d = 3; bool e = 4; bool f = 8; bool a = 2;", api.ErrReserved, "a")
	message(t, "reserved 2, 5 to 7; bool c = 1; bool d = 3; bool e = 4; bool f = 8;", api.OK, "")
	message(t, "reserved 1 to max; bool a = 536870911;", api.ErrReserved, "a")
	message(t, `reserved "b", "a"; oneof o { bool a = 5; }`, api.ErrReserved, "a")
	message(t, `reserved "a_b", "A"; bool aB = 5; oneof a_b { bool a = 1; } message A { bool a_b = 1; }`, api.OK, "")
	message(t, "map<bytes, int32> a = 1;", api.ErrMapKey, "a")
}

func TestKeys(t *testing.T) { // P702: every type of a map's key
	for _, key := range strings.Fields(keyWords) {
		message(t, "map<"+key+", M> a = 1;", api.OK, "")
	}
	others := []string{"double", "float", "bytes", "E", "N", "M", "Gone", ".E", ".string", ".int32", "string.a", "a.string", "String", "int", "int3", "int322", "M.E", "map", "google.protobuf.Any"}
	for _, key := range others {
		message(t, "map<"+key+", M> a = 1; message N { } enum E { Z = 0; }", api.ErrMapKey, "a")
	}
	message(t, "map<int32, M> b = 1; int32 c = 3; map<bytes, M> a = 2;", api.ErrMapKey, "a")
	refused(t, "a message of a scalar's name", texts("a", "message bytes { } message M { map<bytes, M> a = 1; }"), fault(api.ErrMapKey, 0, "M.a"))
	right(t, "a message of a key's name", texts("a", "message string { } message M { map<string, string> a = 1; map<string, .string> b = 2; }"))
}

func TestJsonNames(t *testing.T) { // P702, P705: what the JSON names are, and those that meet
	for name, want := range map[string]string{
		"a": "a", "a_b": "aB", "_a": "A", "a__1": "a1", "a_": "a", "a__": "a", "_": "", "___": "", "a__b": "aB", "a_B": "aB", "A_b_C_d": "ABCD", "_1a": "1a", "a_1b": "a1b",
		"a_1_b": "a1B", "__a__": "A", "z_z": "zZ", "a_z_": "aZ", "_A": "A", "abcXyz": "abcXyz", "a_b_c": "aBC", "a9_z": "a9Z", "_Z": "Z", "_z9z": "Z9z",
	} {
		s := load(t, texts("a", "message M { bool "+name+" = 1; }"))
		f, e := s.Field("M", 1)
		if f.Json != want || f.Name != name || e != api.OK || want != secondJson(name) {
			t.Errorf("P705: the JSON name of %q is %q, want %q; %v", name, f.Json, want, e)
		}
	}
	for _, pair := range [][2]string{{"a_b", "aB"}, {"a_b", "a__b"}, {"a_b", "a_b_"}, {"a_B", "a_b"}, {"a1", "a_1"}, {"_", "__"}, {"_a", "A"}, {"a", "a_"}, {"_a", "_A"}} {
		for _, two := range [][2]string{pair, {pair[1], pair[0]}} {
			message(t, "bool "+two[0]+" = 1; bool x = 2; bool "+two[1]+" = 3;", api.ErrJsonName, two[1])
			message(t, "oneof o { bool "+two[0]+" = 1; } map<int32, M> "+two[1]+" = 3; bool x = 2;", api.ErrJsonName, two[1])
		}
	}
	message(t, "bool a_b = 1; bool AB = 2; bool ab = 3; bool Ab = 4; bool a_b1 = 5; bool _ = 6; bool b = 7;", api.OK, "")
	message(t, "bool a_b = 1; message N { bool aB = 1; } message aB { } oneof aB_ { bool c = 2; }", api.OK, "")
	message(t, "oneof a_b { bool aB = 1; }", api.OK, "")
}

// subsets goes through all ways to pick some of the parts.
func subsets(parts int, f func(has func(part int) bool)) {
	for set := range 1 << parts {
		f(func(part int) bool { return set>>part&1 != 0 })
	}
}

// either is one of two texts.
func either(b bool, yes, no string) string {
	if b {
		return yes
	}
	return no
}

func TestOrderOfFieldFaults(t *testing.T) { // P702: all that may be wrong with one field, alone and together
	errs := []api.Errno{api.ErrTwice, api.ErrFieldNumber, api.ErrReserved, api.ErrJsonName, api.ErrMapKey}
	for _, twice := range []string{"message gone { }", "enum gone { Z = 0; }"} {
		for _, number := range []string{"0", "19000", "1", "536870912"} {
			subsets(5, func(has func(int) bool) {
				body := "bool first = 1; " + either(has(3), "bool gone_", "bool other") + " = 2; " +
					either(has(4), "map<float, M>", "map<int32, M>") + " gone = " + either(has(1), number, "7") + "; " +
					either(has(2), `reserved "gone"; `, `reserved "goner"; `) + either(has(0), twice, "") + "bool last = 9;"
				want, name := api.OK, ""
				for i, e := range errs {
					if has(i) {
						want, name = e, "gone"
						break
					}
				}
				check(t, body, texts("a", "message M { "+body+" }"), 0, "M", want, name)
			})
		}
	}
	message(t, "reserved 5; bool a = 4; bool b = 4; bool c = 5; ", api.ErrFieldNumber, "b")
	message(t, "reserved 5; bool a = 1; bool a_ = 5;", api.ErrReserved, "a_")
	message(t, "bool a = 1; map<bytes, M> a_ = 3;", api.ErrJsonName, "a_")
	message(t, "bool a = 1; bool a = 1;", api.ErrTwice, "a")
	message(t, "bool a = 1; bool a_ = 1;", api.ErrFieldNumber, "a_")
	message(t, "map<bytes, M> a = 1; bool a = 2;", api.ErrMapKey, "a")
}

func TestOrderOfMessageFaults(t *testing.T) { // P702: what is wrong with a message, alone and together: its size, what it reserves, its oneofs, its fields
	many := numbered(509, "bool f%[1]d = 1%03[1]d;") // and four below
	subsets(6, func(has func(int) bool) {
		body := either(has(5), "bool a = 0;", "bool a = 1;") + either(has(4), "bool b = 19000;", "bool b = 2;") +
			"oneof p { bool c = 3; } oneof " + either(has(3), "p", "q") + " { bool d = 4; }" +
			either(has(2), "enum p { Z = 0; }", "") + either(has(1), either(has(0), `reserved "r", "r";`, "reserved 900, 900;"), "") + either(has(0), many, "")
		switch {
		case has(0):
			message(t, body, api.ErrTypes, "")
		case has(1):
			message(t, body, api.ErrReserved, "")
		case has(2), has(3):
			message(t, body, api.ErrTwice, "p")
		case has(5):
			message(t, body, api.ErrFieldNumber, "a")
		case has(4):
			message(t, body, api.ErrFieldNumber, "b")
		default:
			message(t, body, api.OK, "")
		}
	})
	message(t, "oneof p { bool c = 0; } oneof q { bool d = 4; } oneof q { bool e = 5; } oneof p { bool f = 6; }", api.ErrTwice, "q")
	message(t, "oneof p { bool c = 3; } oneof q { bool d = 4; } oneof p { bool f = 6; } oneof q { bool e = 5; }", api.ErrTwice, "p")
}

func TestEnumItself(t *testing.T) { // P703: each rule alone
	enum(t, "Z = 0;", api.OK, "")
	values := func(n int) string { return numbered(n, "V%[1]d = %[1]d;") }
	enum(t, values(512), api.OK, "")
	enum(t, values(513), api.ErrTypes, "")
	enum(t, "Z = 0; reserved 5 to 7, 7;", api.ErrReserved, "")
	enum(t, "Z = 0; reserved 5 to 7, 8;", api.OK, "")
	enum(t, "Z = 0; reserved -7 to -5, -9 to -7;", api.ErrReserved, "")
	enum(t, "Z = 0; reserved -7 to -5, -9 to -8, 3 to max, -2147483648;", api.OK, "")
	enum(t, "Z = 0; reserved 3 to max, 2147483647;", api.ErrReserved, "")
	enum(t, "Z = 0; reserved -2147483648 to -1, -2147483648;", api.ErrReserved, "")
	enum(t, `Z = 0; reserved "a", "b"; reserved "a";`, api.ErrReserved, "")
	enum(t, `Z = 0; reserved "a", "b", "A";`, api.OK, "")
	for _, n := range []string{"1", "-1", "2147483647", "-2147483648"} {
		enum(t, "A = "+n+";", api.ErrEnumValue, "")
		enum(t, "A = "+n+"; Z = 0;", api.ErrEnumValue, "")
		enum(t, "Z = 0; A = "+n+";", api.OK, "")
		enum(t, "Z = 0; A = "+n+"; B = "+n+";", api.ErrEnumValue, "B")
	}
	enum(t, "A = -0;", api.OK, "")
	enum(t, "A = 0; B = 1; A = 2;", api.ErrTwice, "A")
	enum(t, "A = 0; B = 1; C = 0;", api.ErrEnumValue, "C")
	enum(t, "A = 0; B = 1; C = -0;", api.ErrEnumValue, "C")
	enum(t, "A = 0; B = 16; C = 0x10;", api.ErrEnumValue, "C")
	enum(t, "A = 0; a = 1; A_ = 2; _ = 3; __ = 4; E = 5; N = 6;", api.OK, "")
	enum(t, "A = 0; B = 3; reserved 2 to max;", api.ErrReserved, "B")
	enum(t, "A = 0; reserved 0;", api.ErrReserved, "A")
	enum(t, "A = 0; reserved -5 to 5;", api.ErrReserved, "A")
	enum(t, "A = 0; B = -5; reserved -5 to -2;", api.ErrReserved, "B")
	enum(t, "A = 0; B = -2; reserved -5 to -2;", api.ErrReserved, "B")
	enum(t, "A = 0; B = -1; C = -6; reserved -5 to -2;", api.OK, "")
	enum(t, `A = 0; B = 2; reserved "C", "B";`, api.ErrReserved, "B")
	enum(t, `A = 0; reserved "A";`, api.ErrReserved, "A")
	enum(t, `A = 0; reserved "a", "AA";`, api.OK, "")
	right(t, "values of two enums alike", texts("a", "enum E { A = 0; B = 1; } enum F { A = 0; B = 1; } message M { enum E { A = 0; } bool A = 1; bool B = 2; }"))
}

func TestOrderOfEnumFaults(t *testing.T) { // P703: alone and together
	many := numbered(510, "V%[1]d = %[1]d000;") // the first one is 0 as well, behind the others
	subsets(7, func(has func(int) bool) {
		first := either(has(2), "1", "0")
		body := "A = " + first + "; "
		second, number := either(has(3), "A", "B"), either(has(4), first, "7")
		body += second + " = " + number + ";"
		if has(5) && !has(4) {
			body += "reserved 7;"
		} else if has(5) && !has(3) {
			body += `reserved "B";`
		}
		body += either(has(6), `C = 7; `, `C = 8;`) + either(has(1), "reserved 900, 900;", "") + either(has(0), many, "")
		third := has(6) && !has(4)
		switch {
		case has(0):
			enum(t, body, api.ErrTypes, "")
		case has(1):
			enum(t, body, api.ErrReserved, "")
		case has(2):
			enum(t, body, api.ErrEnumValue, "")
		case has(3):
			enum(t, body, api.ErrTwice, "A")
		case has(4):
			enum(t, body, api.ErrEnumValue, "B")
		case has(5):
			enum(t, body, api.ErrReserved, "B")
		case third:
			enum(t, body, api.ErrEnumValue, "C")
		default:
			enum(t, body, api.OK, "")
		}
	})
}

// places are where a message or enum may stand, in the order of the walk, with what tells of it in the sources below.
var places = []string{"p.M", "p.M.N", "p.M.N.K", "p.M.N.K.E", "p.M.N.E", "p.M.O", "p.M.E", "p.M.F", "p.P", "p.P.E", "p.E", "p.F", "q.M", "q.M.E", "q.E"}

// spread are two sources with a message or enum at each place: some are named otherwise, some have statements more.
func spread(names, more map[string]string) []api.Source {
	head := func(kind, full, rest string) string {
		name := full[strings.LastIndexByte(full, '.')+1:]
		if other, ok := names[full]; ok {
			name = other
		}
		return kind + " " + name + " { " + more[full] + " " + rest + " } "
	}
	m := func(full string, rest ...string) string { return head("message", full, strings.Join(rest, "")) }
	e := func(full string) string { return head("enum", full, "Z = 0;") }
	// Enums stand ahead of messages in the text, to show that the walk goes otherwise.
	return texts(
		"a", "package p; "+e("p.E")+m("p.M", e("p.M.E"), m("p.M.N", e("p.M.N.E"), m("p.M.N.K", e("p.M.N.K.E"))), e("p.M.F"), m("p.M.O"))+e("p.F")+m("p.P", e("p.P.E")),
		"b", "package q; "+e("q.E")+m("q.M", e("q.M.E")))
}

// fileOf is the place of the source of a place.
func fileOf(full string) int {
	if strings.HasPrefix(full, "q") {
		return 1
	}
	return 0
}

func TestWalk(t *testing.T) { // P701: within a round, the first along the walk of the first source
	right(t, "as it is", spread(nil, nil))
	for i, one := range places {
		for _, other := range places[i:] {
			long := strings.Repeat("n", 255)
			full := one[:strings.LastIndexByte(one, '.')+1] + long
			refused(t, "round 4", spread(map[string]string{one: long, other: long}, nil), fault(api.ErrLong, fileOf(one), full))
			refused(t, "round 5", spread(nil, map[string]string{one: "reserved 5, 5;", other: "reserved 7, 7;"}), fault(api.ErrReserved, fileOf(one), one))
			refused(t, "rounds 4 and 5", spread(map[string]string{other: long}, map[string]string{one: "reserved 5, 5;"}), fault(api.ErrLong, fileOf(other), other[:strings.LastIndexByte(other, '.')+1]+long))
			if isEnum(one) {
				continue
			}
			field := map[string]string{one: "bool a = 1; Gone b = 2; Gone c = 3; "}
			if !isEnum(other) && other != one {
				field[other] = "Gone a = 1;"
			}
			refused(t, "round 6", spread(nil, field), fault(api.ErrUnknown, fileOf(one), one+".b"))
			if other != one {
				field[other] = "reserved 5, 5;"
				refused(t, "rounds 5 and 6", spread(nil, field), fault(api.ErrReserved, fileOf(other), other))
			}
		}
	}
}

// isEnum says whether an enum stands at a place.
func isEnum(full string) bool {
	return strings.HasSuffix(full, "E") || strings.HasSuffix(full, "F")
}

func TestRounds(t *testing.T) { // P701: a fault of an earlier round in a later source comes ahead of one of a later round in an earlier source
	long := strings.Repeat("n", 60)
	tooLong := "message " + long + " { }" + numbered(500, "message A%d{"+long+" a=1;}")
	texts := []string{"", "message", `import "none";`, "message X { } message X { }", "message X { reserved 1, 1; }", "message X { Gone a = 1; }", "package " + strings.Repeat("q", 60) + ";" + tooLong}
	faults := []api.Fault{fault(api.ErrName, 0, ""), {Err: api.ErrEnd, At: len(begin) + 7}, fault(api.ErrImport, 0, "none"), fault(api.ErrTwice, 0, "X"), fault(api.ErrReserved, 0, "X"), fault(api.ErrUnknown, 0, "X.a"), fault(api.ErrLong, 0, strings.Repeat("q", 60))}
	for round := range texts {
		for later := round; later < len(texts); later++ {
			for _, swapped := range []bool{false, true} {
				var l []api.Source
				for i, r := range []int{later, round} {
					name := strconv.Itoa(i)
					if r == 0 {
						name = ""
					}
					l = append(l, api.Source{Name: name, Text: begin + "package p" + strconv.Itoa(i) + "; " + texts[r]})
					if r == 6 || r == 1 {
						l[i].Text = begin + texts[r]
					}
				}
				want, file := faults[round], 1
				if swapped {
					l[0], l[1] = l[1], l[0]
				}
				if swapped || round == later {
					file = 0
				}
				if want.File = file; round == 6 {
					want.File = 0
				}
				if round > 2 && round < 6 {
					want.Name = "p" + either(round == later, either(swapped, "1", "0"), "1") + "." + want.Name
				}
				if round == 6 {
					l = l[:1] // a package twice would be a name twice
				}
				refused(t, "two rounds", l, want)
			}
		}
	}
}
