package sign_test

import (
	"bytes"
	"fmt"
	"math"
	"testing"

	"sigil/api"
	"sigil/sign"
)

func TestNumbers(t *testing.T) { // P1605: numbers of every type, alone, in lists, in maps, in a oneof
	s := wideSchema()
	num8 := func(typ int, v api.Value) []byte {
		if typ == api.TString || typ == api.TBytes {
			return domain("sigil.leaf", n8(typ), []byte(v.Text))
		}
		return domain("sigil.leaf", n8(typ), n8(v.Num))
	}
	typ := secondType(s, "w.W")
	var all [][]byte
	looks := func(m api.Value, number int, d []byte) {
		t.Helper()
		want := domain("sigil.commit", typ, domain("sigil.node", []byte("w.W"), n8(1), sum([]byte{0}, domain("sigil.field", n8(number), d))))
		got := commits(t, s, "w.W", m)
		if !bytes.Equal(got, want) {
			t.Errorf("P1605: Commit(%s) = %x, want %x", short(m), got, want)
		}
		all = append(all, got)
	}
	for k := api.TDouble; k <= api.TEnum; k++ {
		for _, v := range samples(k) {
			leaf := num8(k, v)
			if v.Num != 0 || v.Text != "" {
				looks(one(single+k, v), single+k, leaf)
			}
			looks(one(optional+k, v), optional+k, leaf)
			looks(one(member+k, v), member+k, leaf)
			looks(one(repeated+k, list(v)), repeated+k, domain("sigil.list", n8(1), sum([]byte{0}, leaf)))
			key := domain("sigil.leaf", n8(api.TString), []byte("k"))
			looks(one(mapped+k, dict(kv("k", v))), mapped+k, domain("sigil.map", n8(1), sum([]byte{0}, domain("sigil.pair", key, leaf))))
		}
	}
	for _, k := range keyTypes {
		for _, v := range samples(k) {
			looks(one(keyed+k, dict(pair(v, num(3)))), keyed+k, domain("sigil.map", n8(1), sum([]byte{0}, domain("sigil.pair", num8(k, v), domain("sigil.leaf", n8(api.TInt32), n8(3))))))
		}
	}
	unlike(t, "P1605: unlike trees", all)
}

func TestBytesOfNumbers(t *testing.T) { // P1605: eight bytes, the lowest first, of the int that the number is
	s := load(t, "message M { optional sfixed32 a = 1; optional fixed64 b = 2; optional float c = 3; }")
	typ := secondType(s, "M")
	for _, c := range []struct {
		number, typ, v int
		b              []byte
	}{
		{1, 11, -2, []byte{254, 255, 255, 255, 255, 255, 255, 255}},
		{1, 11, math.MaxInt32, []byte{255, 255, 255, 127, 0, 0, 0, 0}},
		{2, 10, -1, []byte{255, 255, 255, 255, 255, 255, 255, 255}},
		{2, 10, math.MinInt, []byte{0, 0, 0, 0, 0, 0, 0, 128}},
		{2, 10, 0x0102030405060708, []byte{8, 7, 6, 5, 4, 3, 2, 1}},
		{3, 2, 0x80000000, []byte{0, 0, 0, 128, 0, 0, 0, 0}},
		{3, 2, 0, []byte{0, 0, 0, 0, 0, 0, 0, 0}},
	} {
		leaf := domain("sigil.leaf", []byte{byte(c.typ), 0, 0, 0, 0, 0, 0, 0}, c.b)
		field := domain("sigil.field", []byte{byte(c.number), 0, 0, 0, 0, 0, 0, 0}, leaf)
		want := domain("sigil.commit", typ, domain("sigil.node", []byte("M"), []byte{1, 0, 0, 0, 0, 0, 0, 0}, sum([]byte{0}, field)))
		if d, e := sign.Commit(s, "M", one(c.number, num(c.v))); e != api.OK || !bytes.Equal(d, want) {
			t.Errorf("P1605: %d: %d: %x, %v, want %x", c.number, c.v, d, e, want)
		}
	}
}

func TestShapes(t *testing.T) { // P1605: messages without fields, lists, maps, maps with messages for values; unlike ones have unlike digests
	s := smallSchema()
	var all [][]byte
	for _, m := range []api.Value{
		msg(),
		example(),
		one(7, msg()),
		one(7, one(7, msg())),
		one(4, dict(kv("", msg()))),
		one(4, dict(kv("", one(4, dict(kv("", msg())))))),
		one(4, dict(kv("", msg()), kv("a", msg()))),
		one(4, dict(kv("a", msg()), kv("b", msg()))),
		one(4, dict(kv("a", one(1, num(1))), kv("b", msg()))),
		one(4, dict(kv("a", msg()), kv("b", one(1, num(1))))),
		one(3, list(num(0))),
		one(3, list(num(0), num(0))),
		one(3, list(num(0), num(0), num(0))),
		one(3, list(num(1), num(2), num(3))),
		one(3, list(num(3), num(2), num(1))),
		one(5, num(0)),
		one(5, num(1)),
		one(6, num(0)),
		msg(at(1, num(1)), at(5, num(1))),
		msg(at(1, num(1)), at(6, num(1))),
		one(2, text("\x01\x00\x00\x00\x00\x00\x00\x00")),
		one(1, num(1)),
		one(7, one(1, num(1))),
		chain(63, 7, msg()),
		chain(62, 7, msg()),
	} {
		all = append(all, commits(t, s, "p.M", m))
	}
	unlike(t, "P1605: unlike trees", all)
	for n := 1; n <= 70; n++ {
		l, d := list(), dict()
		for i := range n {
			l.List = append(l.List, num(i))
			d.List = append(d.List, kv(fmt.Sprintf("%03d", i), one(1, num(i+1))))
		}
		all = append(all, commits(t, s, "p.M", one(3, l)), commits(t, s, "p.M", one(4, d)))
	}
}

func TestManyFields(t *testing.T) { // P1605: as many fields as a message may have
	text := "message M {"
	m := msg()
	for i := range 512 {
		text += fmt.Sprintf("optional sint64 a%d = %d;", i, 3*i+1)
		m.Fields = append(m.Fields, at(3*i+1, num(i-100)))
	}
	s := load(t, text+"}")
	for n := range 513 {
		if n < 10 || n%64 < 2 || n > 510 {
			commits(t, s, "M", msg(m.Fields[:n]...))
			commits(t, s, "M", msg(m.Fields[512-n:]...))
		}
	}
	opens(t, s, "M", m, "a0")
	opens(t, s, "M", m, "a300")
	opens(t, s, "M", m, "a511")
}

func TestTypesAreApart(t *testing.T) { // P1605, P1606: the same tree of other types has another commitment, the same type by whatever schema the same one
	m := one(1, num(1))
	var all [][]byte
	for _, text := range []string{"message M { int32 a = 1; }", "message M { int64 a = 1; }", "message M { sint32 a = 1; }", "message M { E a = 1; } enum E { Z = 0; }", "message M { optional int32 a = 1; }", "message M { int32 b = 1; }", "message M { oneof o { int32 a = 1; } }"} {
		s := load(t, text)
		d := commits(t, s, "M", m)
		all = append(all, d)
		other := load(t, "package q; message R { }", text+" message N { M m = 1; }")
		if again := commits(t, other, "M", m); !bytes.Equal(again, d) {
			t.Errorf("P1606: %s: another commitment beside another type", text)
		}
	}
	s := load(t, "message A { int32 a = 1; } message B { int32 a = 1; }")
	all = append(all, commits(t, s, "A", m), commits(t, s, "B", m))
	unlike(t, "P1606: unlike types", all)
}

func TestMadeCommits(t *testing.T) { // P1605, P1606: made schemas and trees against the second reading; unlike trees have unlike commitments
	met := map[string]api.Value{}
	for _, c := range mades(t, 800) {
		key := fmt.Sprintf("%p %s %x", c.s, c.name, commits(t, c.s, c.name, c.m))
		if v, ok := met[key]; ok && !same(v, c.m) {
			t.Errorf("P1605: %s and %s have one commitment", short(v), short(c.m))
		}
		met[key] = c.m
	}
}
