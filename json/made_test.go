package json_test

import (
	"fmt"
	"math"
	"math/rand"
	"slices"
	"strings"
	"testing"

	"sigil/api"
	"sigil/bind"
	"sigil/json"
	"sigil/tree"
)

// maker makes trees of the wide schema, and texts of its messages as anyone may write them.
type maker struct {
	*rand.Rand
	s    *bind.Schema
	rare int // one of so many things that are written is wrong; 0: none is
}

func newMaker(seed int64) *maker {
	return &maker{Rand: rand.New(rand.NewSource(seed)), s: wideSchema()}
}

// pick is one of some.
func pick[T any](m *maker, l ...T) T { return l[m.Intn(len(l))] }

// wrong says whether the next thing is to be wrong.
func (m *maker) wrong() bool { return m.rare > 0 && m.Intn(m.rare) == 0 }

// message makes a typed tree in which messages lie so many levels deep.
func (m *maker) message(name string, levels int) api.Value {
	info, _ := m.s.Message(name)
	v := msg()
	for range m.Intn(8) {
		if f := pick(m, info.Fields...); f.Type != api.TMessage || levels > 1 {
			v.Fields = append(v.Fields, at(f.Number, m.field(f, levels)))
		}
	}
	return v
}

// field makes a value that fits a field.
func (m *maker) field(f api.Field, levels int) api.Value {
	switch f.Card {
	case api.CRepeated:
		l := list()
		for range m.Intn(4) {
			l.List = append(l.List, m.value(f.Type, f.Of, levels))
		}
		return l
	case api.CMap:
		l := dict()
		for range m.Intn(5) {
			l.List = append(l.List, pair(m.value(f.Key, "", levels), m.value(f.Type, f.Of, levels)))
		}
		return l
	}
	return m.value(f.Type, f.Of, levels)
}

// value makes a value of a type.
func (m *maker) value(typ int, of string, levels int) api.Value {
	switch typ {
	case api.TMessage:
		return m.message(of, levels-1)
	case api.TString:
		return text(pick(m, "", "", "a", "b", "a\x00", "é", "\U0010ffff", "\"\\/", "\n\r\t\b\f\x01\x1f", "null", "0", strings.Repeat("long ", 9)))
	case api.TBytes:
		return text(pick(m, "", "", "a", "ab", "abc", "\xff", "\x00\xff", "\xfb\xff\xbf", strings.Repeat("\x80", m.Intn(20))))
	case api.TBool:
		return num(m.Intn(2))
	case api.TInt32, api.TSint32, api.TSfixed32, api.TEnum:
		return num(pick(m, 0, 0, 1, -1, 5, 6, 64, -65, math.MinInt32, math.MaxInt32, 300))
	case api.TUint32, api.TFixed32, api.TFloat:
		return num(pick(m, 0, 0, 1, 128, math.MaxUint32, 1<<31))
	}
	return num(pick(m, 0, 0, 1, -1, math.MinInt, math.MaxInt, 1<<40, -1<<62))
}

// normal makes a normal tree of a type.
func (m *maker) normal(name string) api.Value {
	v, _, e := tree.Normalise(m.s, name, m.message(name, 1+m.Intn(5)))
	if e != api.OK {
		panic(e)
	}
	return v
}

// blank is what may stand between tokens.
func (m *maker) blank() string {
	return pick(m, "", "", "", "", " ", "\n", "\t", "\r\n ", "  ")
}

// string is a string that means a text, with escapes where there need not be any.
func (m *maker) string(s string) string {
	var b strings.Builder
	for _, c := range s {
		switch {
		case c > 0xffff && m.Intn(2) == 0:
			fmt.Fprintf(&b, pick(m, `\u%04x\u%04x`, `\u%04X\u%04x`), 0xd800+(c-0x10000)>>10, 0xdc00+(c-0x10000)&0x3ff)
		case c == '/' && m.Intn(2) == 0:
			b.WriteString(`\/`)
		case c <= 0xffff && m.Intn(4) == 0:
			fmt.Fprintf(&b, pick(m, `\u%04x`, `\u%04X`), c)
		default:
			q := secondQuote(string(c))
			b.WriteString(q[1 : len(q)-1])
		}
	}
	return `"` + b.String() + `"`
}

// row is an object or an array.
func (m *maker) row(from string, l []string, to string) string {
	var b strings.Builder
	b.WriteString(from + m.blank())
	for i, s := range l {
		if i > 0 {
			b.WriteString(m.blank() + "," + m.blank())
		}
		b.WriteString(s)
	}
	return b.String() + m.blank() + to
}

// written is a text of a message of a type, in which messages lie so many levels deep.
func (m *maker) written(name string, levels int) string {
	if m.wrong() {
		return m.other()
	}
	info, _ := m.s.Message(name)
	var l []string
	var met, oneofs []int
	for range m.Intn(8) {
		f := pick(m, info.Fields...)
		again := slices.Contains(met, f.Number) || f.Oneof > 0 && slices.Contains(oneofs, f.Oneof)
		if again && !m.wrong() || f.Type == api.TMessage && levels <= 1 && !m.wrong() {
			continue
		}
		met = append(met, f.Number)
		field := m.string(pick(m, f.Name, f.Json))
		if m.wrong() {
			field = m.string(pick(m, "nope", "", "s_", f.Name+" ", strings.ToUpper(f.Name)))
		}
		value := "null"
		if m.Intn(8) > 0 {
			value, oneofs = m.ofField(f, levels), append(oneofs, f.Oneof)
		}
		l = append(l, field+m.blank()+":"+m.blank()+value)
	}
	return m.row("{", l, "}")
}

// ofField is a text of a field's value.
func (m *maker) ofField(f api.Field, levels int) string {
	if m.wrong() {
		return m.other()
	}
	var l []string
	switch f.Card {
	case api.CRepeated:
		for range m.Intn(4) {
			l = append(l, m.ofType(f.Type, f.Of, levels))
		}
		return m.row("[", l, "]")
	case api.CMap:
		var keys []api.Value
		for range m.Intn(5) {
			k := m.value(f.Key, "", 0)
			if slices.ContainsFunc(keys, func(old api.Value) bool { return same(old, k) }) && !m.wrong() {
				continue
			}
			keys = append(keys, k)
			l = append(l, m.key(f.Key, k)+m.blank()+":"+m.blank()+m.ofType(f.Type, f.Of, levels))
		}
		return m.row("{", l, "}")
	}
	return m.ofType(f.Type, f.Of, levels)
}

// key is the name of a key's member.
func (m *maker) key(typ int, k api.Value) string {
	if m.wrong() {
		return pick(m, `"01"`, `"x"`, `""`, `"99999999999999999999"`, `"-1"`, `"True"`, `"1.0"`)
	}
	if typ == api.TString {
		return m.string(k.Text)
	}
	return m.string(strings.Trim(secondValue(m.s, api.Field{Type: typ}, k), `"`))
}

// ofType is a text of a type's value.
func (m *maker) ofType(typ int, of string, levels int) string {
	switch {
	case typ == api.TMessage:
		return m.written(of, levels-1)
	case m.wrong():
		return m.other()
	}
	v := m.value(typ, of, levels)
	told := secondValue(m.s, api.Field{Type: typ, Of: of}, v)
	switch {
	case typ == api.TString:
		return m.string(v.Text)
	case typ == api.TEnum && m.Intn(2) == 0:
		return fmt.Sprint(v.Num)
	case typ == api.TBool || typ == api.TEnum && told[0] != '"':
		return told
	}
	bare := strings.Trim(told, `"`)
	switch typ {
	case api.TDouble, api.TFloat, api.TBytes, api.TEnum:
		return m.string(bare)
	}
	return pick(m, bare, `"`+bare+`"`, m.string(bare))
}

// other is a value that mostly does not fit.
func (m *maker) other() string {
	return pick(m, `null`, `true`, `false`, `0`, `-1`, `1.5`, `1e5`, `-0`, `2147483648`, `18446744073709551616`, `""`, `"x"`, `"1"`, `"01"`, `"AAA"`, `"true"`, `"A"`, `"NOPE"`, `"00000000"`, `[]`, `[null]`, `[1]`, `["a"]`, `{}`, `{"a":1}`, `{"1":1}`, `{"nope":{}}`, `{"":""}`)
}

func TestMadeTexts(t *testing.T) { // P1206 to P1208: made texts, right ones and wrong ones, against the second reading
	met := map[api.Errno]int{}
	for seed := range int64(2500) {
		m := newMaker(seed)
		for _, m.rare = range []int{0, 0, 100, 20} {
			for _, name := range m.s.Messages() {
				bad := agrees(t, m.s, name, m.blank()+m.written(name, 1+m.Intn(5))+m.blank())
				if m.rare == 0 && bad.Err != api.OK {
					t.Fatalf("a text that should be right is refused: %+v", bad)
				}
				met[bad.Err]++
			}
		}
	}
	for _, e := range []api.Errno{api.OK, api.ErrMember, api.ErrShape, api.ErrJsonNumber, api.ErrBase64, api.ErrJsonEnum, api.ErrJsonOneof} {
		if met[e] < 20 {
			t.Errorf("only %d made texts are %v", met[e], e)
		}
	}
}

func TestMangledTexts(t *testing.T) { // P1202, P1206: made texts of which a piece is changed, left out, doubled or put elsewhere
	pieces := []string{"{", "}", "[", "]", ":", ",", `"`, `\`, "0", "-", "1", ".", "e", "null", "true", " ", "\n", "x", "é", "\xff", "\x00", `\u`, `"a"`, "d8"}
	met := map[api.Errno]int{}
	for seed := range int64(1500) {
		m := newMaker(seed)
		for _, name := range m.s.Messages() {
			s := m.written(name, 1+m.Intn(4))
			for range 4 {
				i := m.Intn(len(s))
				k := i + m.Intn(min(4, len(s)-i)+1)
				far := m.Intn(len(s))
				mangled := pick(m, s[:i]+s[k:], s[:i]+pick(m, pieces...)+s[i:], s[:i]+pick(m, pieces...)+s[k:], s[:k]+s[i:], s[:far]+s[i:k]+s[far:], s[:i])
				met[agrees(t, m.s, name, mangled).Err]++
				looks(t, mangled)
			}
		}
	}
	for _, e := range []api.Errno{api.OK, api.ErrJson, api.ErrJsonText, api.ErrMember, api.ErrShape, api.ErrJsonNumber} {
		if met[e] < 20 {
			t.Errorf("only %d mangled texts are %v", met[e], e)
		}
	}
}

func TestMadeTrees(t *testing.T) { // P1205, P1207, P1209: made trees, against the second writing, and read back
	for seed := range int64(4000) {
		m := newMaker(seed)
		for _, name := range m.s.Messages() {
			v := m.normal(name)
			prints(t, m.s, name, v, secondText(m.s, name, v))
		}
	}
}

func TestMadeJson(t *testing.T) { // P1203, P1209: any JSON, with blanks, against the second reading
	for seed := range int64(4000) {
		m := newMaker(seed)
		s := m.any(4)
		bare, bad := json.Compact(m.blank() + s + m.blank())
		if bad != (api.Fault{}) {
			t.Fatalf("P1203: Compact(%s) answers %+v", some(s), bad)
		}
		looks(t, s)
		compacts(t, s, bare)
		compacts(t, bare, bare)
	}
}

// any is any JSON.
func (m *maker) any(levels int) string {
	kind := m.Intn(6)
	if levels == 0 {
		kind = m.Intn(4)
	}
	switch kind {
	case 0:
		return pick(m, "true", "false", "null")
	case 1:
		return pick(m, "0", "-0", "1.50", "-12e+3", "9E-9", "1234567890123456789012345678901234567890")
	case 2, 3:
		return m.string(m.value(api.TString, "", 0).Text)
	}
	var l []string
	for range m.Intn(4) {
		in := m.any(levels - 1)
		if kind == 4 {
			in = m.string(m.value(api.TString, "", 0).Text) + m.blank() + ":" + m.blank() + in
		}
		l = append(l, in)
	}
	if kind == 4 {
		return m.row("{", l, "}")
	}
	return m.row("[", l, "]")
}
