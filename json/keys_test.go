package json_test

import (
	"fmt"
	"math"
	"slices"
	"strings"
	"testing"

	"sigil/api"
)

// told is a key and the name of its member.
type told struct {
	key  api.Value
	name string
}

func k(v int, name string) told { return told{num(v), name} }

// keysOf are keys of a type, at its bounds and beside them, in their order; and names that are no keys, with their reasons.
func keysOf(typ int) ([]told, []refusal) {
	var wrong []refusal
	bad := func(l ...string) {
		for _, s := range l {
			wrong = append(wrong, refusal{s, api.ErrJsonNumber})
		}
	}
	bad(``, `-`, `+1`, `01`, `00`, `-0`, `-01`, ` 1`, `1 `, `1.0`, `1e0`, `0x1`, `1_0`, `true`, `null`, `1\u0000`, `１`, strings.Repeat("9", 400), `-`+strings.Repeat("9", 400))
	switch typ {
	case api.TBool:
		wrong = nil
		for _, s := range []string{``, `0`, `1`, `True`, `TRUE`, `true `, ` false`, `t`, `null`, `\u0000`, `truefalse`} {
			wrong = append(wrong, refusal{s, api.ErrShape})
		}
		return []told{k(0, `false`), k(1, `true`)}, wrong
	case api.TString:
		return []told{{text(""), ``}, {text("\x00"), `\u0000`}, {text("\n"), `\n`}, {text("\""), `\"`}, {text("0"), `0`}, {text("A"), `A`}, {text("\\"), `\\`}, {text("a"), `a`}, {text("a\x00"), `a\u0000`}, {text("aa"), `aa`}, {text("b"), `b`}, {text("null"), `null`}, {text("é"), `é`}, {text("\uffff"), "\uffff"}, {text("\U00010000"), "\U00010000"}}, nil
	case api.TInt32, api.TSint32, api.TSfixed32:
		bad("-2147483649", "2147483648", "9223372036854775808")
		return []told{k(math.MinInt32, "-2147483648"), k(-10, "-10"), k(-9, "-9"), k(-1, "-1"), k(0, "0"), k(1, "1"), k(9, "9"), k(10, "10"), k(math.MaxInt32, "2147483647")}, wrong
	case api.TUint32, api.TFixed32:
		bad("-1", "4294967296", "18446744073709551616")
		return []told{k(0, "0"), k(1, "1"), k(9, "9"), k(10, "10"), k(math.MaxUint32, "4294967295")}, wrong
	case api.TUint64, api.TFixed64:
		bad("-1", "18446744073709551616", "-9223372036854775808")
		return []told{k(0, "0"), k(1, "1"), k(9, "9"), k(10, "10"), k(math.MaxInt, "9223372036854775807"), k(math.MinInt, "9223372036854775808"), k(-1, "18446744073709551615")}, wrong
	}
	bad("-9223372036854775809", "9223372036854775808", "18446744073709551615")
	return []told{k(math.MinInt, "-9223372036854775808"), k(-1, "-1"), k(0, "0"), k(1, "1"), k(9, "9"), k(10, "10"), k(math.MaxInt, "9223372036854775807")}, wrong
}

func TestKeys(t *testing.T) { // P1205, P1206: every type of key, at its bounds, in the order of keys
	s := wideSchema()
	for _, typ := range keyTypes {
		keys, wrong := keysOf(typ)
		ahead, number := fmt.Sprintf(`{"k%d":{`, typ), keyed+typ
		all, texts := dict(), []string{}
		for i, k := range keys {
			prints(t, s, "w.W", one(number, dict(pair(k.key, num(i-1)))), fmt.Sprintf(`%s"%s":%d}}`, ahead, k.name, i-1))
			all.List = append(all.List, pair(k.key, num(i)))
			texts = append(texts, fmt.Sprintf(`"%s":%d`, k.name, i))
		}
		prints(t, s, "w.W", one(number, all), ahead+strings.Join(texts, ",")+`}}`)
		for turn := range texts { // in other orders
			l := slices.Concat(texts[turn:], texts[:turn])
			reads(t, s, "w.W", ahead+strings.Join(l, " ,\n")+`}}`, one(number, all))
			slices.Reverse(l)
			reads(t, s, "w.W", ahead+strings.Join(l, ",")+`}}`, one(number, all))
		}
		for i, k := range keys { // each again: the same key, also if it is written otherwise
			for _, name := range []string{k.name, escaped(k.key, k.name)} {
				first := ahead + strings.Join(texts[:i+1], ",") + `,`
				refuses(t, s, "w.W", first+`"`+name+`":0}}`, len(first), api.ErrMember)
				refuses(t, s, "w.W", first+` "`+name+`":true}}`, len(first)+1, api.ErrMember)
				reads(t, s, "w.W", ahead+`"`+name+`":7}}`, one(number, dict(pair(k.key, num(7)))))
			}
		}
		for _, w := range wrong {
			refuses(t, s, "w.W", ahead+`"`+w.text+`":0}}`, len(ahead), w.err)
			refuses(t, s, "w.W", ahead+`"`+w.text+`":[]}}`, len(ahead), w.err) // ahead of what is wrong with the value
			first := ahead + texts[0] + ` , `
			refuses(t, s, "w.W", first+`"`+w.text+`" : null}}`, len(first), w.err)
		}
	}
}

// escaped is a key's name with all its characters escaped.
func escaped(key api.Value, name string) string {
	if key.Kind == api.VText {
		name = key.Text
	}
	var b strings.Builder
	for _, c := range name {
		if c > 0xffff {
			fmt.Fprintf(&b, `\u%04x\u%04X`, 0xd800+(c-0x10000)>>10, 0xdc00+(c-0x10000)&0x3ff)
			continue
		}
		fmt.Fprintf(&b, `\u%04X`, c)
	}
	return b.String()
}

func TestKeysApart(t *testing.T) { // P1206: keys are the same in one object alone
	s := wideSchema()
	reads(t, s, "w.W", `{"k3":{"1":1},"k4":{"1":1},"k14":{"1":1},"m3":{"1":1},"r17":[{"k3":{"1":1}},{"k3":{"1":1}}]}`, msg(
		at(repeated+17, list(one(keyed+3, dict(pair(num(1), num(1)))), one(keyed+3, dict(pair(num(1), num(1)))))),
		at(mapped+3, dict(kv("1", num(1)))), at(keyed+3, dict(pair(num(1), num(1)))), at(keyed+4, dict(pair(num(1), num(1)))), at(keyed+14, dict(kv("1", num(1))))))
	reads(t, s, "w.W", `{"m17":{"a":{"m17":{"a":{"m17":{"a":{}}}}}}}`, one(mapped+17, dict(kv("a", one(mapped+17, dict(kv("a", one(mapped+17, dict(kv("a", msg()))))))))))
	reads(t, s, "w.W", `{"k14":{"a":1,"A":2,"a ":3,"":4}}`, one(keyed+14, dict(kv("", num(4)), kv("A", num(2)), kv("a", num(1)), kv("a ", num(3)))))
}

func TestManyKeys(t *testing.T) { // P1206: many pairs in no order, the last of them one that was there
	s := wideSchema()
	const many = 30000
	var b strings.Builder
	v := dict()
	for i := range many {
		fmt.Fprintf(&b, `"%d":%d,`, i*7919%many, i*7919%many)
		v.List = append(v.List, pair(num(i), num(i)))
	}
	reads(t, s, "w.W", `{"k6":{`+strings.TrimSuffix(b.String(), ",")+`}}`, one(keyed+api.TUint64, v))
	refuses(t, s, "w.W", `{"k6":{`+b.String()+`"12345":0}}`, 7+b.Len(), api.ErrMember)
}
