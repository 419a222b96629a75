package stream_test

import (
	"encoding/binary"
	"fmt"
	"slices"
	"strings"
	"testing"

	"sigil/api"
	"sigil/stream"
)

// blocksOf tells of each block of a stream behind its head the number, the place, how many records there are and how many bytes they have.
func blocksOf(t *testing.T, b []byte) [][4]int {
	t.Helper()
	_, from, e := stream.Look(b)
	if e != api.OK {
		t.Fatal(e)
	}
	var l [][4]int
	for from < len(b) {
		var said [4]int
		for i := range said {
			said[i] = int(binary.LittleEndian.Uint32(b[from+16+4*i:]))
		}
		l = append(l, said)
		from += 36 + said[3]
	}
	return l
}

func TestPackErrors(t *testing.T) { // P1701: each error, and of two the first
	zero := msg(at(1, num(0)))
	wrongs := []struct {
		e      api.Errno
		place  int
		change func(h *api.Head, l *[]api.Value)
	}{
		{api.ErrHead, 0, func(h *api.Head, _ *[]api.Value) {
			h.Sources = append(slices.Clone(h.Sources), api.Source{Name: "f", Text: one})
		}},
		{api.ErrLong, 0, func(h *api.Head, _ *[]api.Value) { h.Type = strings.Repeat("M", api.MaxName+1) }},
		{api.ErrName, 0, func(h *api.Head, _ *[]api.Value) { h.Type = "N" }},
		{api.ErrArg, 0, func(h *api.Head, _ *[]api.Value) { h.Per = 0 }},
		{api.ErrRecords, 0, func(_ *api.Head, l *[]api.Value) { *l = append(*l, make([]api.Value, api.MaxRecords)...) }},
		{api.ErrType, 1, func(_ *api.Head, l *[]api.Value) { (*l)[1] = num(1) }},
		{api.ErrNormal, 2, func(_ *api.Head, l *[]api.Value) { (*l)[2] = zero }},
	}
	for i, first := range wrongs {
		for _, second := range wrongs[i:] {
			h, l := exampleHeadFor(2), as(0, 4)
			second.change(&h, &l)
			first.change(&h, &l) // behind the other: of two wrong types the one that is looked at first
			packRefuses(t, h, l, first.place, first.e)
		}
	}
	packed(t, exampleHeadFor(2), as(0, 4)...)
}

func TestPackSources(t *testing.T) { // P1701: sources that don't load, for whatever reason
	many := func(n int) []api.Source {
		var l []api.Source
		for i := range n {
			l = append(l, api.Source{Name: fmt.Sprint("f", i), Text: fmt.Sprintf("syntax = 'proto3'; message M%d { int32 a = 1; }", i)})
		}
		return l
	}
	for _, sources := range [][]api.Source{
		{{Name: "", Text: one}},
		{{Name: strings.Repeat("f", api.MaxName+1), Text: one}},
		{{Name: "f"}},
		{{Name: "f", Text: one + strings.Repeat(" ", api.MaxText)}},
		{{Name: "f", Text: one}, {Name: "g", Text: one}},
		{{Name: "f", Text: `syntax = "proto3"; import "g"; message M { }`}},
		{{Name: "f", Text: `syntax = "proto3"; message M { N n = 1; }`}},
		{{Name: "f", Text: `syntax = "proto3"; message M { int32 a = 0; }`}},
		many(api.MaxFiles + 1),
	} {
		// The type is not asked for, nor is anything behind it.
		for _, typ := range []string{"M", "", strings.Repeat("M", 300)} {
			packRefuses(t, api.Head{Sources: sources, Type: typ, Per: 1}, nil, 0, api.ErrHead)
			packRefuses(t, api.Head{Sources: sources, Type: typ}, []api.Value{{}}, 0, api.ErrHead)
		}
	}
	packRefuses(t, api.Head{Per: 1}, nil, 0, api.ErrName) // no sources are a schema, without types
	packRefuses(t, api.Head{Type: "M", Per: 1}, nil, 0, api.ErrName)
	for i := range api.MaxFiles {
		h := api.Head{Sources: many(api.MaxFiles), Type: fmt.Sprint("M", i), Per: 3}
		b := packed(t, h, as(0, 5)...)
		looks(t, b, h, len(secondHead(h)))
		reads(t, b, as(0, 5))
	}
	blank := one + strings.Repeat(" ", api.MaxText-len(one))
	h := api.Head{Sources: []api.Source{{Name: strings.Repeat("\xff", api.MaxName), Text: blank}}, Type: "M", Per: 1}
	looks(t, packed(t, h, a(1)), h, 8+4+4+4+255+4+65536+4+1+4+2+4)
}

func TestPackTypes(t *testing.T) { // P1701, P1703: types in packages and in messages; what is no message's name
	text := `syntax = "proto3"; package p.q; message M { N n = 1; message N { int32 a = 1; E e = 2; } enum E { Z = 0; } }`
	for _, typ := range []string{"p.q.M", "p.q.M.N"} {
		h := headFor(text, typ, 1)
		b := packed(t, h, msg())
		looks(t, b, h, len(secondHead(h)))
		reads(t, b, []api.Value{msg()})
	}
	inner := headFor(text, "p.q.M.N", 2)
	reads(t, packed(t, inner, as(0, 9)...), as(0, 9))
	for _, typ := range []string{"", "M", "q.M", ".p.q.M", "p.q", "p.q.M.E", "p.q.M.n", "p.q.M.N.a", strings.Repeat("M", api.MaxName), "int32"} {
		packRefuses(t, headFor(text, typ, 1), nil, 0, api.ErrName)
		packRefuses(t, headFor(text, typ, 0), []api.Value{{}}, 0, api.ErrName)
	}
	packRefuses(t, headFor(text, strings.Repeat("M", api.MaxName+1), 1), nil, 0, api.ErrLong)
	long := strings.Repeat("M", api.MaxName-1)
	h := headFor(`syntax = "proto3"; message `+long+` { }`, long, 1)
	looks(t, packed(t, h, msg()), h, len(secondHead(h)))
}

func TestPackPer(t *testing.T) { // P1701: blocks of Per records
	for _, per := range []int{1, 2, 3, 255, 256} {
		for _, n := range []int{0, 1, per - 1, per, per + 1, 2 * per, 2*per + 1, 3*per - 1} {
			h := exampleHeadFor(per)
			b := packed(t, h, as(0, n)...)
			looks(t, b, h, 85)
			reads(t, b, as(0, n))
			blocks := blocksOf(t, b)
			if len(blocks) != (n+per-1)/per {
				t.Errorf("P1701: %d values with Per %d are %d blocks", n, per, len(blocks))
			}
			for i, said := range blocks {
				if said[0] != i || said[2] != min(per, n-i*per) {
					t.Errorf("P1701: %d values with Per %d: block %d says %v", n, per, i, said)
				}
			}
		}
	}
	for _, per := range []int{0, -1, 257, 258, 512, 1 << 16, 1<<16 + 1, -1 << 63, 1<<63 - 1} {
		packRefuses(t, exampleHeadFor(per), nil, 0, api.ErrArg)
		packRefuses(t, exampleHeadFor(per), []api.Value{{}}, 0, api.ErrArg)
	}
}

func TestPackMost(t *testing.T) { // P1701: MaxRecords values and one more
	for _, per := range []int{1, 255, 256} {
		h := exampleHeadFor(per)
		reads(t, packed(t, h, as(0, api.MaxRecords)...), as(0, api.MaxRecords))
		packRefuses(t, h, as(0, api.MaxRecords+1), 0, api.ErrRecords)
		packRefuses(t, h, make([]api.Value, api.MaxRecords+1), 0, api.ErrRecords)
		packRefuses(t, h, make([]api.Value, api.MaxRecords), 0, api.ErrType)
		packRefuses(t, h, append(as(1, api.MaxRecords), msg(at(1, num(0)))), api.MaxRecords-1, api.ErrNormal)
	}
}

func TestPackValues(t *testing.T) { // P1701: what encode answers of the first value that is refused, with its place
	h := headFor(small, "p.M", 2)
	chain := func(n int) api.Value {
		v := msg()
		for range n - 1 {
			v = msg(at(7, v))
		}
		return v
	}
	nested := list()
	for range api.MaxNest {
		nested = list(nested)
	}
	ring := []api.Value{num(1), {}}
	ring[1] = list(ring...)
	ring[1].List = ring
	numbers := list(slices.Repeat([]api.Value{num(1)}, api.MaxValues-1)...)
	wrong := map[api.Errno][]api.Value{
		api.ErrType:   {{}, num(1), list(), msg(at(9, num(1))), msg(at(1, text(""))), msg(at(2, text("\xff"))), msg(at(1, num(1<<31)))},
		api.ErrNormal: {msg(at(1, num(0))), msg(at(3, list())), msg(at(2, text("a")), at(1, num(1))), msg(at(6, num(0)), at(7, msg())), msg(at(7, msg(at(2, text("")))))},
		api.ErrDepth:  {chain(api.MaxDepth + 1), msg(at(3, nested))},
		api.ErrSize:   {msg(at(2, text(strings.Repeat("x", api.MaxMessage))))},
		api.ErrLong:   {msg(at(3, numbers)), msg(at(3, list(ring...)))},
	}
	for e, l := range wrong {
		for _, v := range l {
			for place := range 4 {
				values := []api.Value{msg(), msg(at(2, text("b"))), chain(api.MaxDepth), msg(at(5, num(0))), num(1)}
				values[place] = v
				packRefuses(t, h, values, place, e)
				appendRefuses(t, packed(t, h, msg()), values, place, e)
			}
		}
	}
}

func TestPackBlocks(t *testing.T) { // P1701: blocks of records that have MaxBlock bytes together, and one more; of one record that alone has more
	const most = api.MaxBlock
	h := headFor(plain, "M", 4)
	longest := filled(api.MaxMessage) // a record of three bytes more
	for _, c := range []struct {
		l    []api.Value
		want [][2]int // of each block how many records it has, and how many bytes
	}{
		{[]api.Value{filled(most/2 - 3), filled(most/2 - 3)}, [][2]int{{2, most}}},
		{[]api.Value{filled(most/2 - 3), filled(most/2 - 2)}, [][2]int{{1, most / 2}, {1, most/2 + 1}}},
		{[]api.Value{filled(most/2 - 3), filled(most/2 - 4), msg()}, [][2]int{{3, most}}},
		{[]api.Value{filled(most/2 - 3), filled(most/2 - 3), msg()}, [][2]int{{2, most}, {1, 1}}},
		{[]api.Value{filled(most/2 - 3), filled(most/2 - 4), msg(), msg()}, [][2]int{{3, most}, {1, 1}}},
		{[]api.Value{filled(most - 3)}, [][2]int{{1, most}}},
		{[]api.Value{filled(most - 3), msg()}, [][2]int{{1, most}, {1, 1}}},
		{[]api.Value{msg(), filled(most - 3)}, [][2]int{{1, 1}, {1, most}}},
		{[]api.Value{msg(), filled(most - 4)}, [][2]int{{2, most}}},
		{[]api.Value{longest}, [][2]int{{1, most + 3}}},
		{[]api.Value{longest, longest}, [][2]int{{1, most + 3}, {1, most + 3}}},
		{[]api.Value{msg(), longest, msg(), msg()}, [][2]int{{1, 1}, {1, most + 3}, {2, 2}}},
		{[]api.Value{filled(most - 2), msg()}, [][2]int{{1, most + 1}, {1, 1}}},
		{[]api.Value{msg(), msg(), msg(), filled(most - 6), msg()}, [][2]int{{4, most}, {1, 1}}},
		{[]api.Value{msg(), msg(), msg(), filled(most - 5), msg()}, [][2]int{{3, 3}, {2, most - 1}}},
		{[]api.Value{msg(), msg(), msg(), msg(), filled(most - 3), msg()}, [][2]int{{4, 4}, {1, most}, {1, 1}}},
	} {
		b := packed(t, h, c.l...)
		blocks := blocksOf(t, b)
		ok := len(blocks) == len(c.want)
		for i := 0; ok && i < len(blocks); i++ {
			ok = blocks[i][0] == i && blocks[i][2] == c.want[i][0] && blocks[i][3] == c.want[i][1]
		}
		if !ok {
			t.Errorf("P1701: blocks %v, want %v", blocks, c.want)
		}
		reads(t, b, c.l)
		if behind := appended(t, h, packed(t, h), c.l...); string(behind) != string(b) {
			t.Error("P1702: appended to no values other blocks than those that Pack makes")
		}
	}
}
