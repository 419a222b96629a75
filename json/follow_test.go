package json_test

import (
	"slices"
	"strings"
	"testing"

	"sigil/api"
	"sigil/json"
	"sigil/tree"
)

// relaid is a text of a message that is written anew: its members in another order, with other blanks, escapes and names, with members that are null.
func (m *maker) relaid(p part, name string) string {
	var l []string
	var met []int
	for i, member := range p.names {
		f, _ := m.s.Named(name, member.means())
		met = append(met, f.Number)
		value := "null"
		if p.parts[i].text != "null" {
			value = m.relaidField(p.parts[i], f)
		} else if m.Intn(2) == 0 {
			continue
		}
		l = append(l, m.string(pick(m, f.Name, f.Json))+m.blank()+":"+m.blank()+value)
	}
	info, _ := m.s.Message(name)
	for range m.Intn(4) {
		if f := pick(m, info.Fields...); !slices.Contains(met, f.Number) {
			met = append(met, f.Number)
			l = append(l, m.string(pick(m, f.Name, f.Json))+":"+m.blank()+"null")
		}
	}
	m.Shuffle(len(l), func(i, k int) { l[i], l[k] = l[k], l[i] })
	return m.row("{", l, "}")
}

// relaidField is a field's value that is written anew.
func (m *maker) relaidField(p part, f api.Field) string {
	var l []string
	for i, in := range p.parts {
		switch f.Card {
		case api.CRepeated:
			l = append(l, m.relaidValue(in, f))
		case api.CMap:
			l = append(l, m.string(p.names[i].means())+m.blank()+":"+m.blank()+m.relaidValue(in, f))
		}
	}
	switch f.Card {
	case api.CRepeated:
		return m.row("[", l, "]")
	case api.CMap:
		m.Shuffle(len(l), func(i, k int) { l[i], l[k] = l[k], l[i] })
		return m.row("{", l, "}")
	}
	return m.relaidValue(p, f)
}

// relaidValue is a single value that is written anew.
func (m *maker) relaidValue(p part, f api.Field) string {
	switch {
	case f.Type == api.TMessage:
		return m.relaid(p, f.Of)
	case p.isString():
		return m.string(p.means())
	}
	return p.text
}

func TestBack(t *testing.T) { // P1207: what was printed is read as the same tree; what was read is normal, and printed and read again the same
	for seed := range int64(2500) {
		m := newMaker(seed)
		c := json.New(m.s)
		for _, name := range m.s.Messages() {
			v := m.normal(name)
			told, e := c.Print(name, v)
			back, bad := c.Parse(name, told)
			if e != api.OK || bad != (api.Fault{}) || !same(back, v) {
				t.Fatalf("P1207: %s is printed as %s, %v, and read as %s, %+v", short(v), some(told), e, short(back), bad)
			}
			read, bad := c.Parse(name, m.written(name, 1+m.Intn(5)))
			if trail, e := tree.Normal(m.s, name, read); e != api.OK || bad != (api.Fault{}) {
				t.Fatalf("P1207: %s is not normal: %v at %v, %+v", short(read), e, trail, bad)
			}
			told, e = c.Print(name, read)
			again, bad := c.Parse(name, told)
			if e != api.OK || bad != (api.Fault{}) || !same(again, read) {
				t.Fatalf("P1207: %s is printed as %s, %v, and read as %s, %+v", short(read), some(told), e, short(again), bad)
			}
		}
	}
}

func TestWrittenOtherwise(t *testing.T) { // P1208: orders of members, blanks, null members, escapes change nothing
	for seed := range int64(2500) {
		m := newMaker(seed)
		c := json.New(m.s)
		for _, name := range m.s.Messages() {
			first := m.written(name, 1+m.Intn(5))
			want, bad := c.Parse(name, first)
			if bad != (api.Fault{}) {
				t.Fatalf("P1206: Parse(%s) answers %+v", some(first), bad)
			}
			l, _ := looked(first)
			top, _ := grown(l)
			for range 3 {
				other := m.blank() + m.relaid(top, name) + m.blank()
				if v, bad := c.Parse(name, other); bad != (api.Fault{}) || !same(v, want) {
					t.Fatalf("P1208: Parse(%s) = %s, %+v, but of %s it is %s", some(other), short(v), bad, some(first), short(want))
				}
				bare, bad := json.Compact(other)
				if v, fault := c.Parse(name, bare); bad != (api.Fault{}) || fault != (api.Fault{}) || !same(v, want) {
					t.Fatalf("P1208: Parse(%s) = %s, %+v, but of %s it is %s", some(bare), short(v), fault, some(first), short(want))
				}
			}
		}
	}
}

func TestCompactAndFaults(t *testing.T) { // P1208: of Compact(text) the same error, wherever it is
	for seed := range int64(2500) {
		m := newMaker(seed)
		m.rare = 15
		c := json.New(m.s)
		for _, name := range m.s.Messages() {
			s := m.written(name, 1+m.Intn(5))
			bare, bad := json.Compact(s)
			v, first := c.Parse(name, s)
			w, second := c.Parse(name, bare)
			if bad != (api.Fault{}) || first.Err != second.Err || !same(v, w) {
				t.Fatalf("P1208: Parse(%s) = %s, %+v, but of %s it is %s, %+v", some(s), short(v), first, some(bare), short(w), second)
			}
		}
	}
}

func TestCompactAgain(t *testing.T) { // P1209: Compact of what Compact told, and of what Print and Quote told, is the same
	for seed := range int64(1500) {
		m := newMaker(seed)
		c := json.New(m.s)
		for _, name := range m.s.Messages() {
			told, _ := c.Print(name, m.normal(name))
			bare, bad := json.Compact(m.written(name, 3))
			if bad != (api.Fault{}) {
				t.Fatalf("P1203: Compact answers %+v", bad)
			}
			quote, _ := json.Quote(m.value(api.TString, "", 0).Text)
			for _, s := range []string{told, bare, quote} {
				compacts(t, s, s)
			}
			if told != secondWithout(told) {
				t.Fatalf("P1205: Print tells blanks: %s", some(told))
			}
		}
	}
}

// secondWithout is a text without the blanks between its tokens.
func secondWithout(s string) string {
	l, _ := looked(s)
	var b strings.Builder
	for _, p := range l {
		b.WriteString(p.text)
	}
	return b.String()
}
