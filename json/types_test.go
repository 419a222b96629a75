package json_test

import (
	"fmt"
	"math"
	"slices"
	"strings"
	"testing"

	"sigil/api"
)

// written is a value of a type and what is written for it.
type written struct {
	v    api.Value
	text string
}

func n(v int, text string) written { return written{num(v), text} }

func x(v string, text string) written { return written{api.Value{Kind: api.VText, Text: v}, text} }

// refusal is a value that a type refuses.
type refusal struct {
	text string
	err  api.Errno
}

// of is what P1205's table says of a type: what is written for its values, at its bounds and beside them; other texts that are read, with their values; texts that are refused. The zero is the first of what is written.
type of struct {
	told    []written
	also    []written
	refused []refusal
}

// numbers is what holds of whole numbers from a least to a greatest one, told as texts; beyond are the texts next to these. quote is what is written around them, least and greatest are the numbers' own.
func numbers(quote, least, most, below, above string, leastNum, mostNum int) of {
	q := func(s string) string { return quote + s + quote }
	o := of{
		told: []written{n(0, q("0")), n(1, q("1")), n(10, q("10")), n(150, q("150")), n(leastNum, q(least)), n(mostNum, q(most))},
		also: []written{n(0, `"0"`), n(0, `0`), n(7, `7`), n(7, `"7"`), n(7, `"\u0037"`), n(100, `"1\u00300"`), n(leastNum, least), n(leastNum, `"`+least+`"`), n(mostNum, most), n(mostNum, `"`+most+`"`)},
	}
	if leastNum < 0 {
		o.told = append(o.told, n(-1, q("-1")), n(-100, q("-100")))
		o.also = append(o.also, n(-1, `-1`), n(-1, `"-1"`), n(-20, `"\u002d20"`))
	}
	for _, s := range []string{below, above, "1.0", "1e0", "1E2", "-0", "0.0", "0e0", "-0.0", "1.5", "-" + above + "0", above + "0", strings.Repeat("9", 400), "-" + strings.Repeat("9", 400)} {
		o.refused = append(o.refused, refusal{s, api.ErrJsonNumber}, refusal{`"` + s + `"`, api.ErrJsonNumber})
	}
	for _, s := range []string{``, `-`, `+1`, `01`, `00`, `-01`, ` 1`, `1 `, `1\n`, `0x1`, `1_0`, `one`, `true`, `null`, `--1`, `１`, `1,0`, `+0`, `\u0000`, `1\u0000`, `NaN`, `Infinity`, `1.`, `.1`, `1e`} {
		o.refused = append(o.refused, refusal{`"` + s + `"`, api.ErrJsonNumber})
	}
	for _, s := range []string{`true`, `false`, `[]`, `[1]`, `{}`} {
		o.refused = append(o.refused, refusal{s, api.ErrShape})
	}
	return o
}

// bitwise is what holds of TFloat and TDouble.
func bitwise(told []written, digits int) of {
	d := strings.Repeat
	o := of{told: told, also: []written{n(1, `"`+d("0", digits-1)+`\u0031"`), n(0, `"`+d(`\u0030`, digits)+`"`)}}
	for _, s := range []string{``, `0`, `1.5`, `NaN`, d("0", digits-1), d("0", digits+1), d("0", digits-2), d("0", 2*digits), d("0", digits/2), d("0", digits-1) + "A", "F" + d("0", digits-1), d("0", digits-1) + "g", d("0", digits-1) + " ", " " + d("0", digits-1), "0x" + d("0", digits-2), "-" + d("0", digits-1), d("0", digits-2) + "é", d("0", digits-1) + `\n`} {
		o.refused = append(o.refused, refusal{`"` + s + `"`, api.ErrJsonNumber})
	}
	for _, s := range []string{`0`, `1`, `-1.5e3`, `true`, `false`, `[]`, `{}`} {
		o.refused = append(o.refused, refusal{s, api.ErrShape})
	}
	return o
}

// shapes are refused for their shape.
func shapes(l ...string) []refusal {
	var out []refusal
	for _, s := range l {
		out = append(out, refusal{s, api.ErrShape})
	}
	return out
}

// refusedBytes are texts that are no base64 as Print writes it.
func refusedBytes() []refusal {
	l := shapes(`0`, `1.5`, `true`, `false`, `[]`, `["AA=="]`, `{}`)
	for _, s := range []string{`A`, `AA`, `AAA`, `AAAAA`, `AAAAAA`, `=`, `==`, `===`, `====`, `A===`, `AA=`, `AAA`, `AA=A`, `A=AA`, `=AAA`, `AAAA=`, `AAAA==`, `AAAA====`, `AA==AA==`, `AAA=AAAA`, `AB==`, `AQ=A`, `AP9=`, `Af==`, `AAB=`, `//9=`, `-_8=`, `AP8=\n`, `AP8=\r\n`, `A\nP8=`, ` AP8=`, `AP8= `, `AP 8`, `é`, `AAé=`, `AAA\u0000`, `AA==\u0000`, `AA\u003d`, `AP8.`, `AP8==`, `A*==`} {
		l = append(l, refusal{`"` + s + `"`, api.ErrBase64})
	}
	return l
}

// ofType is P1205's table, by type; TMessage is told of messages of w.W.
func ofType(typ int) of {
	switch typ {
	case api.TDouble:
		return bitwise([]written{n(0, `"0000000000000000"`), n(1, `"0000000000000001"`), n(-1, `"ffffffffffffffff"`), n(math.MinInt, `"8000000000000000"`), n(math.MaxInt, `"7fffffffffffffff"`), n(0x3ff0000000000000, `"3ff0000000000000"`), n(0x0123456789abcdef, `"0123456789abcdef"`), n(0x100000000, `"0000000100000000"`)}, 16)
	case api.TFloat:
		return bitwise([]written{n(0, `"00000000"`), n(1, `"00000001"`), n(0xffffffff, `"ffffffff"`), n(0x80000000, `"80000000"`), n(0x7fffffff, `"7fffffff"`), n(0x3f800000, `"3f800000"`), n(0x89abcdef, `"89abcdef"`)}, 8)
	case api.TInt32, api.TSint32, api.TSfixed32:
		return numbers(``, "-2147483648", "2147483647", "-2147483649", "2147483648", math.MinInt32, math.MaxInt32)
	case api.TUint32, api.TFixed32:
		return numbers(``, "0", "4294967295", "-1", "4294967296", 0, math.MaxUint32)
	case api.TInt64, api.TSint64, api.TSfixed64:
		return numbers(`"`, "-9223372036854775808", "9223372036854775807", "-9223372036854775809", "9223372036854775808", math.MinInt, math.MaxInt)
	case api.TUint64, api.TFixed64:
		o := numbers(`"`, "0", "18446744073709551615", "-1", "18446744073709551616", 0, -1)
		o.told = append(o.told, n(math.MinInt, `"9223372036854775808"`), n(math.MaxInt, `"9223372036854775807"`), n(-2, `"18446744073709551614"`))
		return o
	case api.TBool:
		return of{told: []written{n(0, `false`), n(1, `true`)}, refused: shapes(`0`, `1`, `"true"`, `"false"`, `""`, `[]`, `[true]`, `{}`)}
	case api.TString:
		return of{
			told:    []written{x("", `""`), x("a", `"a"`), x("\"\\\b\f\n\r\t/", `"\"\\\b\f\n\r\t/"`), x("\x00\x1f \x7f", `"\u0000\u001f `+"\x7f"+`"`), x("é\u2028\U0010ffff", "\"é\u2028\U0010ffff\""), x("null", `"null"`), x("1", `"1"`)},
			also:    []written{x("/", `"\/"`), x("A", `"\u0041"`), x("\U0001f600", `"\ud83d\ude00"`), x("", `""`), x("é", `"\u00e9"`), x("\x00", `"\u0000"`)},
			refused: shapes(`0`, `-1.5`, `true`, `false`, `[]`, `["a"]`, `{}`),
		}
	case api.TBytes:
		return of{
			told:    []written{x("", `""`), x("\x00", `"AA=="`), x("\xff", `"/w=="`), x("\x00\xff", `"AP8="`), x("a", `"YQ=="`), x("ab", `"YWI="`), x("abc", `"YWJj"`), x("abcd", `"YWJjZA=="`), x("\xfb\xef\xbe\xff\xff\xff", `"++++////"`), x("\x00\x10\x83\x10Q\x87 \x92\x8b", `"ABCDEFGHIJKL"`), x("\xff\xff\xff\xff", `"/////w=="`)},
			also:    []written{x("\xff\xff\xff", `"\/\/\/\/"`), x("abc", `"YW\u004aj"`), x("\x00", `"AA\u003d\u003d"`)},
			refused: refusedBytes(),
		}
	case api.TEnum:
		return of{
			told: []written{n(0, `"Z"`), n(1, `"A"`), n(-1, `"B_C"`), n(math.MaxInt32, `"MOST"`), n(math.MinInt32, `"LEAST"`), n(5, `"null"`), n(6, `"true"`), n(2, `2`), n(-2, `-2`), n(7, `7`), n(math.MaxInt32-1, `2147483646`), n(math.MinInt32+1, `-2147483647`)},
			also: []written{n(0, `0`), n(1, `1`), n(-1, `-1`), n(math.MaxInt32, `2147483647`), n(math.MinInt32, `-2147483648`), n(5, `5`), n(0, `"\u005a"`), n(-1, `"B\u005fC"`)},
			refused: append(shapes(`true`, `false`, `[]`, `["A"]`, `{}`), refusal{`"1"`, api.ErrJsonEnum}, refusal{`"0"`, api.ErrJsonEnum}, refusal{`""`, api.ErrJsonEnum}, refusal{`"a"`, api.ErrJsonEnum}, refusal{`"z"`, api.ErrJsonEnum}, refusal{`"A "`, api.ErrJsonEnum}, refusal{`"BC"`, api.ErrJsonEnum}, refusal{`"bC"`, api.ErrJsonEnum}, refusal{`"w.E.A"`, api.ErrJsonEnum}, refusal{`"` + strings.Repeat("A", 300) + `"`, api.ErrJsonEnum},
				refusal{`2147483648`, api.ErrJsonNumber}, refusal{`-2147483649`, api.ErrJsonNumber}, refusal{`1.0`, api.ErrJsonNumber}, refusal{`-0`, api.ErrJsonNumber}, refusal{`1e0`, api.ErrJsonNumber}, refusal{`18446744073709551616`, api.ErrJsonNumber}),
		}
	}
	return of{
		told:    []written{{msg(), `{}`}, {one(3, num(1)), `{"s3":1}`}, {msg(at(tail, text("x")), at(far, num(-1))), `{"tail":"x","far":-1}`}, {one(17, one(17, msg())), `{"s17":{"s17":{}}}`}, {one(none, text("e")), `{"":"e"}`}},
		also:    []written{{msg(), `{"s_3":0}`}, {msg(), `{"r3":[],"tail":null}`}, {one(3, num(1)), `{"s_3":"1"}`}, {one(none, text("e")), `{"__":"e"}`}},
		refused: append(shapes(`0`, `true`, `false`, `""`, `"{}"`, `[]`, `[{}]`), refusal{`{"x":1}`, api.ErrMember}),
	}
}

// place is a way to let a value stand in a message of w.W: what is around it, and the tree that has it there.
type place struct {
	ahead, behind string
	tree          func(v api.Value) api.Value
	zeros         bool // whether a zero is there
	null          bool // whether null there means that nothing is
}

// places are all ways in which a value of a type stands in a message: with every card, by both names.
func places(typ int) []place {
	item := func(v api.Value) api.Value { return list(v) }
	mapOf := func(v api.Value) api.Value { return dict(kv("k", v)) }
	itself := func(v api.Value) api.Value { return v }
	var l []place
	for _, c := range []struct {
		letter        string
		number        int
		ahead, behind string
		made          func(v api.Value) api.Value
		zeros, null   bool
	}{
		{"s", single, ``, ``, itself, typ == api.TMessage, true}, {"o", optional, ``, ``, itself, true, true}, {"x", member, ``, ``, itself, true, true},
		{"r", repeated, `[`, `]`, item, true, false}, {"m", mapped, `{"k":`, `}`, mapOf, true, false},
	} {
		number, made := c.number+typ, c.made
		for _, name := range []string{fmt.Sprint(c.letter, typ), fmt.Sprint(c.letter, "_", typ), fmt.Sprintf(`\u%04x%d`, c.letter[0], typ)} {
			l = append(l, place{`{"` + name + `":` + c.ahead, c.behind + `}`, func(v api.Value) api.Value { return one(number, made(v)) }, c.zeros, c.null})
		}
	}
	first := ofType(typ).told[1]
	r := repeated + typ
	l = append(l,
		place{fmt.Sprintf(`{"r%d":[%s, `, typ, first.text), ` ] }`, func(v api.Value) api.Value { return one(r, list(first.v, v)) }, true, false},
		place{fmt.Sprintf(`{"m%d" : { "a" : %s , "" : `, typ, first.text), ` } }`, func(v api.Value) api.Value { return one(mapped+typ, dict(kv("", v), kv("a", first.v))) }, true, false},
		place{fmt.Sprintf(`{"tail":"é","s17": {"o%d" :`, typ), `}}`, func(v api.Value) api.Value { return msg(at(17, one(optional+typ, v)), at(tail, text("é"))) }, true, true},
	)
	return l
}

func TestTypes(t *testing.T) { // P1205, P1206: every type at its bounds, as a field, in a list, as a map's value
	s := wideSchema()
	for typ := api.TDouble; typ <= api.TMessage; typ++ {
		o := ofType(typ)
		for i, p := range places(typ) {
			for _, w := range slices.Concat(o.told, o.also) {
				want := p.tree(w.v)
				if !p.zeros && (same(w.v, num(0)) || same(w.v, text(""))) {
					want = msg()
				}
				reads(t, s, "w.W", p.ahead+w.text+p.behind, want)
				reads(t, s, "w.W", p.ahead+" \n"+w.text+"\t"+p.behind, want)
			}
			for _, r := range o.refused {
				place := len(p.ahead)
				if r.err == api.ErrMember {
					place++
				}
				refuses(t, s, "w.W", p.ahead+r.text+p.behind, place, r.err)
				refuses(t, s, "w.W", p.ahead+" "+r.text+p.behind, place+1, r.err)
			}
			if p.null {
				reads(t, s, "w.W", p.ahead+"null"+p.behind, nulled(p))
			} else {
				refuses(t, s, "w.W", p.ahead+"null"+p.behind, len(p.ahead), api.ErrShape)
			}
			if i%3 != 0 || i >= 15 {
				continue // else it is written by its JSON name, without a blank
			}
			for _, w := range o.told {
				if p.zeros || !same(w.v, num(0)) && !same(w.v, text("")) {
					prints(t, s, "w.W", p.tree(w.v), p.ahead+w.text+p.behind)
				} else {
					printRefuses(t, s, "w.W", p.tree(w.v), api.ErrNormal)
				}
			}
		}
	}
}

// nulled is the tree where null stands at a place.
func nulled(p place) api.Value {
	if v := p.tree(num(0)); len(v.Fields) == 1 {
		return msg()
	}
	return msg(at(17, msg()), at(tail, text("é")))
}

func TestLists(t *testing.T) { // P1205, P1206: lists of every type, of none to many values
	s := wideSchema()
	for typ := api.TDouble; typ <= api.TMessage; typ++ {
		name, number := fmt.Sprint("r", typ), repeated+typ
		reads(t, s, "w.W", `{"`+name+`":[]}`, msg())
		reads(t, s, "w.W", `{"`+name+`" : [ ] }`, msg())
		reads(t, s, "w.W", `{"`+name+`":null}`, msg())
		var texts []string
		l := list()
		for _, w := range ofType(typ).told {
			texts, l.List = append(texts, w.text), append(l.List, w.v)
			prints(t, s, "w.W", one(number, l), `{"`+name+`":[`+strings.Join(texts, ",")+`]}`)
		}
		for _, r := range ofType(typ).refused { // behind the others
			ahead := `{"` + name + `":[` + strings.Join(texts, ",") + `,`
			place := len(ahead)
			if r.err == api.ErrMember {
				place++
			}
			refuses(t, s, "w.W", ahead+r.text+`]}`, place, r.err)
		}
		for _, other := range []string{`0`, `""`, `true`, `false`, `{}`, `{"0":0}`, texts[1]} {
			refuses(t, s, "w.W", `{"`+name+`": `+other+`}`, len(name)+5, api.ErrShape)
		}
	}
}

func TestMaps(t *testing.T) { // P1205, P1206: maps of every type, of none to many pairs, in any order
	s := wideSchema()
	for typ := api.TDouble; typ <= api.TMessage; typ++ {
		name, number := fmt.Sprint("m", typ), mapped+typ
		reads(t, s, "w.W", `{"`+name+`":{}}`, msg())
		reads(t, s, "w.W", `{"`+name+`":null}`, msg())
		var texts []string
		l := dict()
		for i, w := range ofType(typ).told {
			key := string(rune('a' + i))
			texts, l.List = append(texts, `"`+key+`":`+w.text), append(l.List, kv(key, w.v))
			prints(t, s, "w.W", one(number, l), `{"`+name+`":{`+strings.Join(texts, ",")+`}}`)
			turned := slices.Clone(texts)
			slices.Reverse(turned)
			reads(t, s, "w.W", `{"`+name+`":{`+strings.Join(turned, " , ")+`}}`, one(number, l))
		}
		for _, other := range []string{`0`, `""`, `true`, `false`, `[]`, `[{}]`} {
			refuses(t, s, "w.W", `{"`+name+`": `+other+`}`, len(name)+5, api.ErrShape)
		}
		ahead := `{"` + name + `":{` + strings.Join(texts, ",") + `,`
		refuses(t, s, "w.W", ahead+`"\u0061":`+ofType(typ).told[0].text+`}}`, len(ahead), api.ErrMember) // ahead of its value
		refuses(t, s, "w.W", ahead+`"a":null}}`, len(ahead), api.ErrMember)
		refuses(t, s, "w.W", ahead+`"0":null}}`, len(ahead)+4, api.ErrShape)
	}
}
