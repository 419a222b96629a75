package path_test

import (
	"fmt"
	"math"
	"strings"
	"testing"

	"sigil/api"
	"sigil/path"
)

// bound is the text of a number and the int that it is as a key.
type bound struct {
	digits string
	num    int
}

// boundsOf are the least and the greatest number of a type of keys that is numeric, and one past each.
func boundsOf(typ int) (least, most bound, below, above string) {
	switch typ {
	case api.TInt32, api.TSint32, api.TSfixed32:
		return bound{"-2147483648", math.MinInt32}, bound{"2147483647", math.MaxInt32}, "-2147483649", "2147483648"
	case api.TInt64, api.TSint64, api.TSfixed64:
		return bound{"-9223372036854775808", math.MinInt}, bound{"9223372036854775807", math.MaxInt}, "-9223372036854775809", "9223372036854775808"
	case api.TUint32, api.TFixed32:
		return bound{"0", 0}, bound{"4294967295", math.MaxUint32}, "-1", "4294967296"
	}
	return bound{"0", 0}, bound{"18446744073709551615", -1}, "-1", "18446744073709551616"
}

func TestKeysOfTypes(t *testing.T) { // P1302, P1303, P1304: keys of every type, at its bounds and one past them
	s := wideSchema()
	for _, typ := range keyTypes {
		name, to := fmt.Sprintf("k_%d", typ), field(keyed+typ)
		right := func(inside string, k api.Value) {
			t.Helper()
			parses(t, s, "w.W", name+"["+inside+"]", to, key(k))
			prints(t, s, "w.W", name+"["+inside+"]", to, key(k))
		}
		wrong := func(insides ...string) {
			t.Helper()
			for _, in := range insides {
				parseRefuses(t, s, "w.W", name+"["+in+"]", api.ErrKeyText)
			}
		}
		refused := func(l ...api.Value) {
			t.Helper()
			for _, k := range l {
				printRefuses(t, s, "w.W", api.ErrKeyText, to, key(k))
			}
		}
		refused(api.Value{}, msg(), list(), dict(), pair(), pair(num(0), num(0)), api.Value{Kind: 7}, api.Value{Kind: -1})
		switch typ {
		case api.TBool:
			right("true", num(1))
			right("false", num(0))
			wrong("0", "1", "-1", `"true"`, `""`)
			refused(num(2), num(-1), text("true"), text(""))
		case api.TString:
			right(`"a"`, text("a"))
			right(`"true"`, text("true"))
			right(`"0"`, text("0"))
			wrong("0", "-1", "true", "false", `"\xff"`, `"a\200"`, `"\355\240\200"`, `"\303"`)
			refused(num(0), text("\xff"), text("a\xc3"), text("\xed\xa0\x80"))
		default:
			least, most, below, above := boundsOf(typ)
			right(least.digits, num(least.num))
			right(most.digits, num(most.num))
			right("0", num(0))
			right("7", num(7))
			wrong(below, above, "-99999999999999999999", "99999999999999999999", "36893488147419103232", "true", "false", `"0"`, `""`)
			refused(text(""), text("0"))
			if least.num > math.MinInt && most.num > 0 {
				refused(num(least.num-1), num(most.num+1), num(math.MinInt), num(math.MaxInt))
			}
			refused(api.Value{Kind: api.VNum, Text: "x"}, api.Value{Kind: api.VNum, Num: 1, List: []api.Value{num(1)}}, api.Value{Kind: api.VNum, Fields: []api.Entry{at(1, num(1))}})
		}
		refused(api.Value{Kind: api.VText, Text: "a", Num: 1}, api.Value{Kind: api.VText, Text: "a", List: []api.Value{{}}}, api.Value{Kind: api.VText, Text: "a", Fields: []api.Entry{{}}})
	}
}

func TestSignlessKeys(t *testing.T) { // P1302: the int of the same bits
	s := wideSchema()
	for _, typ := range []int{api.TUint64, api.TFixed64} {
		name := fmt.Sprintf("k%d", typ)
		parses(t, s, "w.W", name+"[9223372036854775807]", field(keyed+typ), key(num(math.MaxInt)))
		parses(t, s, "w.W", name+"[9223372036854775808]", field(keyed+typ), key(num(math.MinInt)))
		prints(t, s, "w.W", fmt.Sprintf("k_%d[18446744073709551614]", typ), field(keyed+typ), key(num(-2)))
	}
}

func TestIndexes(t *testing.T) { // P1302, P1303, P1304: indexes 0, 4194303, 4194304, and what is none
	s := wideSchema()
	for typ := api.TDouble; typ <= api.TMessage; typ++ {
		name, to := fmt.Sprintf("r_%d", typ), field(repeated+typ)
		for in, n := range map[string]int{"0": 0, "1": 1, "4194303": 4194303} {
			parses(t, s, "w.W", name+"["+in+"]", to, index(n))
			prints(t, s, "w.W", name+"["+in+"]", to, index(n))
		}
		for _, in := range []string{"4194304", "-1", "-4194303", "4294967296", "9223372036854775807", "9223372036854775808", "18446744073709551616", "-9223372036854775808", "-18446744073709551615", "true", "false", `"0"`, `""`, `"\xff"`} {
			parseRefuses(t, s, "w.W", name+"["+in+"]", api.ErrIndex)
		}
		for _, n := range []int{-1, 4194304, math.MinInt, math.MaxInt, 1 << 32} {
			printRefuses(t, s, "w.W", api.ErrIndex, to, index(n))
		}
	}
}

func TestWords(t *testing.T) { // P1302: fields as declared and by their JSON names, of every type and card
	s := wideSchema()
	info, _ := s.Message("w.W")
	for _, f := range info.Fields {
		parses(t, s, "w.W", f.Name, field(f.Number))
		prints(t, s, "w.W", f.Name, field(f.Number))
		parses(t, s, "w.W", "s_17.s17.q2.w."+f.Name, field(api.TMessage), field(api.TMessage), field(other+2), field(2), field(f.Number))
		switch f.Number {
		case blank:
			parses(t, s, "w.W", "__", field(blank))
		case digit:
			parseRefuses(t, s, "w.W", "1", api.ErrStep)
			parseRefuses(t, s, "w.W", "of_v.w.1", api.ErrStep)
		default:
			parses(t, s, "w.W", f.Json, field(f.Number))
			parses(t, s, "w.W", "ofV.w."+f.Json, field(ofV), field(2), field(f.Number))
		}
	}
	for _, word := range []string{"z", "S_1", "s_0", "s_18", "s", "_s1", "s1_", "s__1", "W", "w", "o", "q", "E", "Z", "OfV", "of_V", "int32", "_", "___"} {
		parseRefuses(t, s, "w.W", word, api.ErrNoField)
		parseRefuses(t, s, "w.W", "s17."+word, api.ErrNoField)
		parseRefuses(t, s, "w.W", `m17["a"].`+word, api.ErrNoField)
		parseRefuses(t, s, "w.W", "r17[0]."+word, api.ErrNoField)
	}
}

func TestFarther(t *testing.T) { // P1302: where a path stands behind each kind of field, and what can be stepped to there
	s := wideSchema()
	ways := map[string]api.Errno{ // what must be answered at a message
		".s_3": api.OK, ".z": api.ErrNoField, "[0]": api.ErrInto, `["a"]`: api.ErrInto, "[true]": api.ErrInto, "[-1]": api.ErrInto, "": api.OK,
	}
	for typ := api.TDouble; typ <= api.TMessage; typ++ {
		for _, at := range []string{"s_%d", "o_%d", "x_%d", "r_%d[0]", `m_%d["a"]`} {
			for end, e := range ways {
				p := fmt.Sprintf(at, typ) + end
				if end != "" && typ != api.TMessage {
					e = api.ErrInto
				}
				if reads(t, s, "w.W", p) != e {
					t.Errorf("P1303: Parse(%q) should be %v", p, e)
				}
			}
		}
		for end, e := range map[string]api.Errno{".s_3": api.ErrInto, ".z": api.ErrInto, `["a"]`: api.ErrIndex, "[true]": api.ErrIndex, "[5]": api.OK, "": api.OK} {
			parseRefusesOr(t, fmt.Sprintf("r_%d", typ)+end, e)
		}
		for end, e := range map[string]api.Errno{".s_3": api.ErrInto, ".z": api.ErrInto, `["a"]`: api.OK, "[true]": api.ErrKeyText, "[5]": api.ErrKeyText, "": api.OK} {
			parseRefusesOr(t, fmt.Sprintf("m_%d", typ)+end, e)
		}
	}
}

// parseRefusesOr looks at the error of a path of the wide schema, or that there is none.
func parseRefusesOr(t *testing.T, p string, want api.Errno) {
	t.Helper()
	if e := reads(t, wideSchema(), "w.W", p); e != want {
		t.Errorf("P1303: Parse(%q): %v, want %v", p, e, want)
	}
}

// faults are steps that are wrong at a message of the wide schema, with what leads there: as texts and as steps.
func faults() []struct {
	text  string
	steps []api.Step
	e     api.Errno
} {
	return []struct {
		text  string
		steps []api.Step
		e     api.Errno
	}{
		{"s_3.s_3", row(field(3), field(3)), api.ErrInto},
		{"r_17.s_3", row(field(repeated+17), field(3)), api.ErrInto},
		{"m_17.s_3", row(field(mapped+17), field(3)), api.ErrInto},
		{"s_17[0]", row(field(17), index(0)), api.ErrInto},
		{`s_17["a"]`, row(field(17), key(text("a"))), api.ErrInto},
		{"r_3[0][0]", row(field(repeated+3), index(0), index(0)), api.ErrInto},
		{`m_3["a"]["a"]`, row(field(mapped+3), key(text("a")), key(text("a"))), api.ErrInto},
		{"z", row(field(18)), api.ErrNoField},
		{"r_17[0].z", row(field(repeated+17), index(0), field(18)), api.ErrNoField},
		{"r_17[4194304]", row(field(repeated+17), index(4194304)), api.ErrIndex},
		{"r_17[-1]", row(field(repeated+17), index(-1)), api.ErrIndex},
		{`m_17["\xff"]`, row(field(mapped+17), key(text("\xff"))), api.ErrKeyText},
		{"map_v[true]", row(field(mapV), key(text("true"))), api.ErrKeyText},
	}
}

func TestFirstFault(t *testing.T) { // P1303, P1304: each fault alone, behind what is right, and two at a time: the first one from the left
	s := wideSchema()
	aheads := []struct {
		text  string
		steps []api.Step
	}{
		{"", nil},
		{"s_17.", row(field(17))},
		{"r_17[3].", row(field(repeated+17), index(3))},
		{`m_17["z"].of_v.w.`, row(field(mapped+17), key(text("z")), field(ofV), field(2))},
	}
	for _, a := range faults() {
		for _, ahead := range aheads {
			steps := append(append([]api.Step(nil), ahead.steps...), a.steps...)
			parseRefuses(t, s, "w.W", ahead.text+a.text, a.e)
			printRefuses(t, s, "w.W", a.e, steps...)
			for _, b := range faults() {
				parseRefuses(t, s, "w.W", ahead.text+a.text+"."+b.text, a.e)
				printRefuses(t, s, "w.W", a.e, append(steps, b.steps...)...)
				printRefuses(t, s, "w.W", a.e, append(steps, api.Step{})...)
				printRefuses(t, s, "w.W", a.e, append(steps, key(text(strings.Repeat("x", api.MaxPath))))...)
			}
		}
	}
}

// impure are steps that no kind names so.
func impure() []api.Step {
	zero := func(kind int) api.Step { return api.Step{Kind: kind, Number: 3} }
	var l []api.Step
	for _, kind := range []int{0, -1, 4, 9, math.MinInt, math.MaxInt} {
		l = append(l, zero(kind), api.Step{Kind: kind})
	}
	for _, k := range []api.Value{num(0), text(""), msg(), list(), {Num: 1}, {Text: "x"}, {List: []api.Value{{}}}, {Fields: []api.Entry{{}}}, {Kind: 9}} {
		for _, kind := range []int{api.SField, api.SIndex} {
			l = append(l, api.Step{Kind: kind, Number: 3, Key: k}, api.Step{Kind: kind, Key: k}, api.Step{Kind: kind, Number: -1, Key: k})
		}
	}
	for _, n := range []int{1, -1, math.MaxInt} {
		l = append(l, api.Step{Kind: api.SKey, Number: n, Key: text("")}, api.Step{Kind: api.SKey, Number: n}, api.Step{Kind: api.SKey, Number: n, Key: num(1)})
	}
	return l
}

func TestImpureSteps(t *testing.T) { // P1304: ErrStep ahead of all else that is wrong with a step, wherever it stands
	s := wideSchema()
	for _, st := range impure() {
		for _, ahead := range [][]api.Step{nil, {field(3)}, {field(17)}, {field(repeated + 3)}, {field(repeated + 17), index(1)}, {field(mapped + 3)}, {field(keyed + api.TBool)}} {
			printRefuses(t, s, "w.W", api.ErrStep, append(append([]api.Step(nil), ahead...), st)...)
			for _, a := range faults() {
				printRefuses(t, s, "w.W", api.ErrStep, append(append(append([]api.Step(nil), ahead...), st), a.steps...)...)
			}
		}
	}
	for _, a := range faults() { // of one step: ErrStep ahead of the fault that it would be
		last := a.steps[len(a.steps)-1]
		if last.Kind == api.SKey {
			last.Number = 1
		} else {
			last.Key = num(0)
		}
		printRefuses(t, s, "w.W", api.ErrStep, append(append([]api.Step(nil), a.steps[:len(a.steps)-1]...), last)...)
	}
	// Nil and empty lists are the same.
	bare := api.Value{List: []api.Value{}, Fields: []api.Entry{}}
	prints(t, s, "w.W", "s_3", field(3))
	if p, e := path.Print(s, "w.W", row(api.Step{Kind: api.SField, Number: 3, Key: bare})); p != "s_3" || e != api.OK {
		t.Errorf("P2: Print with empty lists: %q, %v", p, e)
	}
	if p, e := path.Print(s, "w.W", row(field(keyed+api.TString), key(api.Value{Kind: api.VText, List: []api.Value{}, Fields: []api.Entry{}}))); p != `k_14[""]` || e != api.OK {
		t.Errorf("P2: Print with empty lists: %q, %v", p, e)
	}
}

func TestManySteps(t *testing.T) { // P1304: MaxPath steps and one more, ahead of what is wrong with them; the text's length behind all
	s := wideSchema()
	steps := func(n int, st api.Step) []api.Step {
		l := make([]api.Step, n)
		for i := range l {
			l[i] = st
		}
		return l
	}
	printRefuses(t, s, "w.W", api.ErrLong, steps(api.MaxPath+1, api.Step{})...)
	printRefuses(t, s, "w.W", api.ErrStep, steps(api.MaxPath, api.Step{})...)
	printRefuses(t, s, "w.W", api.ErrLong, steps(api.MaxPath+1, field(17))...)
	printRefuses(t, s, "w.W", api.ErrLong, steps(api.MaxPath, field(17))...)
	printRefuses(t, s, "w.W", api.ErrNoField, append(steps(api.MaxPath-1, field(17)), field(18))...)
	printRefuses(t, s, "w.W", api.ErrLong, append(steps(api.MaxPath, field(17)), field(18))...)
	printRefuses(t, s, "w.W", api.ErrLong, steps(1<<20, field(18))...)
	// 204 times five bytes and three more, or four.
	prints(t, s, "w.W", strings.Repeat("s_17.", 204)+"far", append(steps(204, field(17)), field(far))...)
	printRefuses(t, s, "w.W", api.ErrLong, append(steps(204, field(17)), field(tail))...)
	printRefuses(t, s, "w.W", api.ErrIndex, append(steps(300, field(17)), field(repeated+17), index(-1))...)
	huge := strings.Repeat("\x01", 1<<24)
	printRefuses(t, s, "w.W", api.ErrLong, field(mapped+17), key(text(huge)))
	printRefuses(t, s, "w.W", api.ErrNoField, field(mapped+17), key(text(huge)), field(18))
	printRefuses(t, s, "w.W", api.ErrKeyText, field(mapped+17), key(text(huge+"\xff")))
}

func TestTextsOfKeys(t *testing.T) { // P1304: texts of keys as scan.Quote writes them, of MaxPath bytes in all and of one more
	s := smallSchema()
	prints(t, s, "p.M", `d["é\n"].g`, field(4), key(text("é\n")), field(7))
	prints(t, s, "p.M", `d["\"\\'\000\001\t\r\177"]`, field(4), key(text("\"\\'\x00\x01\t\r\x7f")))
	for _, c := range []struct {
		key  string
		size int
	}{{"a", 1}, {"é", 2}, {"\"", 2}, {"\n", 2}, {"\x00", 4}, {"\U0010ffff", 4}} {
		n := (api.MaxPath - len(`d[""]`)) / c.size
		k := strings.Repeat(c.key, n) + strings.Repeat("a", (api.MaxPath-len(`d[""]`))%c.size)
		p, e := path.Print(s, "p.M", row(field(4), key(text(k))))
		if e != api.OK || len(p) != api.MaxPath {
			t.Errorf("P1304: Print of %d times %q: %d bytes, %v", n, c.key, len(p), e)
		}
		parses(t, s, "p.M", p, field(4), key(text(k)))
		printRefuses(t, s, "p.M", api.ErrLong, field(4), key(text(k+"a")))
	}
}

func TestNamesOfTypes(t *testing.T) { // P1303, P1304: the name ahead of all that is wrong with the path or the steps
	full := strings.Repeat("n", api.MaxName-1)
	s := load(t, fmt.Sprintf(`syntax = "proto3"; message %s { int32 a = 1; } enum E { Z = 0; }`, full))
	parses(t, s, full, "a", field(1))
	prints(t, s, full, "a", field(1))
	for name, e := range map[string]api.Errno{
		full + "n": api.ErrName, full + "nn": api.ErrLong, strings.Repeat("x", 1<<20): api.ErrLong, "": api.ErrName, "E": api.ErrName, "." + full: api.ErrName, "\xff": api.ErrName, full[1:]: api.ErrName,
	} {
		for _, p := range []string{"", "a", "z", ".", strings.Repeat(".", api.MaxPath+1)} {
			parseRefuses(t, s, name, p, e)
		}
		for _, steps := range [][]api.Step{nil, {field(1)}, {{}}, make([]api.Step, api.MaxPath+1)} {
			printRefuses(t, s, name, e, steps...)
		}
	}
}
