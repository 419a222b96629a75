package path_test

import (
	"fmt"
	"strings"
	"testing"

	"sigil/api"
	"sigil/bind"
)

// keys is a schema with maps and lists of all kinds of keys and values, by short names.
const keys = `syntax = "proto3"; message K { repeated K l = 1; map<string, K> s = 2; map<bool, K> b = 3; map<sint64, K> i = 4; K k = 5; int32 n = 6; repeated bytes y = 7; int32 true = 8; K false = 9; int32 x1 = 10; }`

// reads holds Parse against the second reading, and tells the error.
func reads(t *testing.T, s *bind.Schema, name, p string) api.Errno {
	t.Helper()
	want, e := secondParse(s, name, p)
	if len(p) > api.MaxPath {
		e = api.ErrLong
	}
	if e != api.OK {
		parseRefuses(t, s, name, p, e)
		return e
	}
	parses(t, s, name, p, want...)
	return e
}

func TestShortTexts(t *testing.T) { // P1301, P1303: all rows of few pieces, against the second reading
	s := load(t, keys)
	pieces := []string{"l", "s", "k", "n", ".", "[", "]", "0", "1", "-", "true", `"`, `\`, "x", " ", "[0]", `["a"]`}
	met := map[api.Errno]int{}
	var all func(so string, n int)
	all = func(so string, n int) {
		met[reads(t, s, "K", so)]++
		if n == 0 || t.Failed() {
			return
		}
		for _, in := range pieces {
			all(so+in, n-1)
		}
	}
	all("", 4)
	for _, ahead := range []string{"l[", "s[", "b[", "i[", `s["`, "l[0].l[", "k."} {
		all(ahead, 3)
	}
	for _, ahead := range []string{`s["a`, `s["\`} {
		for _, in := range pieces {
			all(ahead+in, 2)
		}
	}
	enough(t, met, api.OK, api.ErrStep, api.ErrInto, api.ErrNoField, api.ErrIndex, api.ErrKeyText)
}

func TestEveryByte(t *testing.T) { // P1301: each byte wherever a word, a dot or an inside may stand, or be inside one
	s := load(t, keys)
	for c := range 256 {
		b := string([]byte{byte(c)})
		for _, p := range []string{
			"^", "^l", "l^", "l^k", "k.^", "k.^n", "k.n^", "k^n", "x^", "x^1", "k.x1^",
			"l[^", "l[^]", "l[^0]", "l[0^]", "l[1^]", "l[0]^", "l[0]^k", "l^[0]", "l[0^", "i[-^]", "i[-^1]", "i[-1^]",
			"s[^]", `s[^"a"]`, `s["^a"]`, `s["a^"]`, `s["a"^]`, `s["a"]^`, `s["a^`, `s["a"^`, `s["\^"]`, `s["\^`, `s["\^]`, `s["\\^"]`, `s["\1^"]`, `s["\x^"]`, `s["\x4^"]`, `s["\x41^"]`, `s["\^"]"]`,
			"b[^true]", "b[true^]", "b[t^rue]", "b[^]", "b[fals^]", "^[0]", "l[^][0]",
		} {
			reads(t, s, "K", strings.Replace(p, "^", b, 1))
		}
	}
}

func TestCutTexts(t *testing.T) { // P1301: texts that end at every place, that begin at every one, and that lack any one byte
	s := load(t, keys)
	for _, p := range []string{
		"k.k.l[0].l[10].s[\"a\\\"]\\x41\\101\\n.é[0]\"].b[true].b[false].i[-9223372036854775808].i[0].n",
		"k.y[4194303]", "true", "false.true", `s["\\"].s["\\\""].s[""].x1`, "k.l[0].k.l[0].k.n",
	} {
		if reads(t, s, "K", p) != api.OK {
			t.Errorf("Parse(%q) should be OK", p)
		}
		for i := range len(p) {
			reads(t, s, "K", p[:i])
			reads(t, s, "K", p[i:])
			reads(t, s, "K", p[:i]+p[i+1:])
			reads(t, s, "K", p[:i]+p[i:i+1]+p[i:])
		}
	}
}

func TestFormsOfTexts(t *testing.T) { // P1301: forms written out
	s := load(t, keys)
	for p, steps := range map[string][]api.Step{
		"":                    nil,
		"n":                   {field(6)},
		"k.n":                 {field(5), field(6)},
		"true":                {field(8)},
		"false.true":          {field(9), field(8)},
		"l[0]":                {field(1), index(0)},
		"l[10].l":             {field(1), index(10), field(1)},
		"b[true]":             {field(3), key(num(1))},
		"b[false].n":          {field(3), key(num(0)), field(6)},
		"i[-1]":               {field(4), key(num(-1))},
		"i[0].i[10]":          {field(4), key(num(0)), field(4), key(num(10))},
		`s[""]`:               {field(2), key(text(""))},
		`s["] . [0]"].n`:      {field(2), key(text("] . [0]")), field(6)},
		`s["\""]`:             {field(2), key(text(`"`))},
		`s["\\"]`:             {field(2), key(text(`\`))},
		`s["\\\"\\"]`:         {field(2), key(text(`\"\`))},
		`s["'\''"]`:           {field(2), key(text("'''"))},
		`s["\a\b\f\n\r\t\v"]`: {field(2), key(text("\a\b\f\n\r\t\v"))},
		`s["\x1\X41\1\101"]`:  {field(2), key(text("\x01A\x01A"))},
		`s["\303\251é"]`:      {field(2), key(text("éé"))},
		"s[\"\x01\t\x7f\"]":   {field(2), key(text("\x01\t\x7f"))},
	} {
		parses(t, s, "K", p, steps...)
	}
	for _, p := range []string{
		".", "..", "n.", ".n", "k..n", "k.n.", "[", "]", "[]", "[0]", "l[", "l[]", "l[0", "l[0]]", "l[[0]]", "l[0].", "l.[0]", "l[0]n", "l[0]k.n", "l]", "l[0] ", " l[0]", "l [0]", "l[ 0]", "l[0 ]", "k .n", "k. n", "n\n", "\nn", "n\x00", "\x00",
		"l[00]", "l[01]", "l[-0]", "l[-00]", "l[-01]", "l[--1]", "l[-]", "l[+1]", "l[1-]", "l[1_0]", "l[0x1]", "l[1.0]", "l[1e1]", "l[0,1]", "l[٣]", "l[0:1]", "l[*]",
		"b[True]", "b[TRUE]", "b[true", "b[true ]", "b[truefalse]", "b[t]", "b[null]", "s[a]", "s['a']", "s[`a`]", `s["]`, `s[""`, `s["a]`, `s["a\"]`, `s["a\\\"]`, `s["a""b"]`, `s["a"b]`, `s[ "a"]`, `s["a" ]`, `s["\"]`, `s["\q"]`, `s["\x"]`, `s["\xg"]`, `s["\400"]`, `s["\8"]`, `s["\u0041"]`, "s[\"\n\"]", "s[\"\x00\"]", "s[\"\xff\"]", "s[\"\xc3\"]", "s[\"a\xed\xa0\x80\"]", `s[\"a\"]`,
		"1n", "é", "ké", "k.é", "k-n", "k/n", "k:n", "$", "n\xff", "-n", "\"n\"", "k.\"n\"", "k.1", "k.0",
	} {
		parseRefuses(t, s, "K", p, api.ErrStep)
		if pathForm.MatchString(p) && !strings.HasPrefix(p, "s[") {
			t.Errorf("the second reading takes %q", p)
		}
	}
}

func TestTextsAheadOfSteps(t *testing.T) { // P1303: a text that is none anywhere goes ahead of every wrong step
	s := load(t, keys)
	for _, step := range []string{"z", "n.n", "n[0]", "l.n", "l[-1]", "l[true]", "s[0]", "b[0]", "i[true]", `s["\xff"]`} {
		for _, end := range []string{".", "[", "]", "[]", "[00]", "[-0]", ".0", " ", `["\q"]`, "[\"\xff\"]", ".k.", "." + strings.Repeat("k", api.MaxName+1)} {
			parseRefuses(t, s, "K", step+end, api.ErrStep)
			parseRefuses(t, s, "K", "k."+step+".k"+end, api.ErrStep)
		}
	}
}

func TestLongWords(t *testing.T) { // P1301: words of MaxName bytes and of one more
	long := strings.Repeat("n", api.MaxName)
	s := load(t, fmt.Sprintf(`syntax = "proto3"; message M { int32 %s = 1; M m = 2; M %s_ = 3; M z%s = 4; }`, long, long[1:], long[:200]))
	parses(t, s, "M", long, field(1))
	parses(t, s, "M", "m."+long, field(2), field(1))
	parses(t, s, "M", long[1:]+"_."+long, field(3), field(1))
	parses(t, s, "M", long[1:]+"."+long, field(3), field(1)) // by its JSON name
	parses(t, s, "M", "z"+long[:200]+"."+long, field(4), field(1))
	parseRefuses(t, s, "M", long+"n", api.ErrStep)
	parseRefuses(t, s, "M", "m."+long+"n", api.ErrStep)
	parseRefuses(t, s, "M", long+"n.m", api.ErrStep)
	parseRefuses(t, s, "M", "z"+long[:201], api.ErrNoField)
	parseRefuses(t, s, "M", "z"+long[1:], api.ErrNoField)
	parseRefuses(t, s, "M", "z"+long, api.ErrStep)
	prints(t, s, "M", "m."+long[1:]+"_."+long, field(2), field(3), field(1))
	maskRefuses(t, s, "M", msg(), api.ErrMask, long+"n")
	keeps(t, s, "M", one(1, num(1)), one(1, num(1)), long)
}

func TestLongPaths(t *testing.T) { // P1303: paths of MaxPath bytes and of one more, right ones and wrong ones
	s := load(t, keys)
	steps := []api.Step{field(5)}
	for range 511 {
		steps = append(steps, field(5))
	}
	most := strings.Repeat("k.", 511) + "k"
	parses(t, s, "K", most, steps...)
	prints(t, s, "K", most, steps...)
	parseRefuses(t, s, "K", most+"k", api.ErrLong)
	parseRefuses(t, s, "K", most[:len(most)-1]+"kk", api.ErrLong)
	a := strings.Repeat("a", api.MaxPath-5)
	parses(t, s, "K", `s["`+a+`"]`, field(2), key(text(a)))
	parseRefuses(t, s, "K", `s["`+a+`a"]`, api.ErrLong)
	dots := strings.Repeat(".", api.MaxPath)
	parseRefuses(t, s, "K", dots, api.ErrStep)
	parseRefuses(t, s, "K", dots+".", api.ErrLong)
	parseRefuses(t, s, "K", strings.Repeat("k.", 511)+"z", api.ErrNoField)
	parseRefuses(t, s, "K", strings.Repeat("k.", 511)+".", api.ErrStep)
	parseRefuses(t, s, "K", strings.Repeat("\xff", 1<<20), api.ErrLong)
	nines := strings.Repeat("9", api.MaxPath-3)
	parseRefuses(t, s, "K", "l["+nines+"]", api.ErrIndex)
	parseRefuses(t, s, "K", "i["+nines+"]", api.ErrKeyText)
	parseRefuses(t, s, "K", "i[-"+nines[1:]+"]", api.ErrKeyText)
	parseRefuses(t, s, "K", "l["+nines+"9]", api.ErrLong)
	// What Print makes of a path may be longer than what was read.
	controls := strings.Repeat("\x01", 300)
	parses(t, s, "K", `s["`+controls+`"]`, field(2), key(text(controls)))
	printRefuses(t, s, "K", api.ErrLong, field(2), key(text(controls)))
	prints(t, s, "K", `s["`+strings.Repeat(`\001`, 254)+`aa"]`, field(2), key(text(controls[:254]+"aa")))
	printRefuses(t, s, "K", api.ErrLong, field(2), key(text(controls[:254]+"aaa")))
	printRefuses(t, s, "K", api.ErrLong, field(2), key(text(controls[:255])))
}
