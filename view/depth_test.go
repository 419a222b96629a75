package view_test

import (
	"bytes"
	"strings"
	"testing"

	"sigil/api"
)

// layer is a way to lay a message into another of w.W, and the steps to it.
type layer struct {
	step string
	lay  func(b []byte) []byte
}

// layers are a field, an optional one, a member, a list, a pair, two fields of other types.
func layers() []layer {
	plain := func(step string, number int) layer {
		return layer{step, func(b []byte) []byte { return record(number, b) }}
	}
	return []layer{
		plain("s17", api.TMessage), plain("o17", optional+api.TMessage), plain("x17", member+api.TMessage), plain("r17[0]", repeated+api.TMessage),
		{`m17["k"]`, func(b []byte) []byte { return record(mapped+api.TMessage, record(2, b), row("0a 01 6b")) }},
	}
}

// deep is bytes laid into so many messages, by layers in turns from one on, and the path to them.
func deep(levels, from int, b []byte) ([]byte, string) {
	var steps []string
	l := layers()
	for i := range levels - 1 {
		in := l[(from+i*(from%2))%len(l)]
		b = in.lay(b)
		steps = append([]string{in.step}, steps...)
	}
	return b, strings.Join(steps, ".")
}

// below is a path that goes on.
func below(p, more string) string { return strings.TrimPrefix(p+"."+more, ".") }

func TestMostMessages(t *testing.T) { // P2101, P7: the 64th message is looked into; where a 65th would begin, its record is at fault, written or not, and with it all that is asked of the 64th
	for from := range 10 {
		b, p := deep(64, from, row("18 05"))
		v := open(t, wideSchema(), "w.W", b)
		v.message(t, p, one(3, num(5)), "18 05")
		v.scalar(t, below(p, "s3"), num(5))
		v.message(t, below(p, "s17"), nil, nil)
		v.message(t, below(p, "m17[\"\"]"), nil, nil)
		for _, last := range layers() {
			for _, in := range [][]byte{nil, row("18 05"), row("00")} {
				over := last.lay(in)
				b, p = deep(64, from, rows(row("18 05"), over))
				v = open(t, wideSchema(), "w.W", b)
				v.scalar(t, below(p, "s3"), api.ErrDepth)
				v.asked(t, below(p, "s17"), api.ErrDepth, api.ErrDepth, noMany, api.ErrDepth)
				v.asked(t, p, true, api.ErrDepth, noMany, string(rows(row("18 05"), over)))
				b, p = deep(63, from, rows(row("18 05"), over))
				v = open(t, wideSchema(), "w.W", b)
				v.scalar(t, below(p, "s3"), num(5))
			}
		}
	}
}

func TestDepthAheadOfContent(t *testing.T) { // P2101, P1102: in the 64th message ErrDepth is the last of a tag's faults, and ahead of what is behind the tag
	for _, number := range []int{api.TMessage, optional + api.TMessage, member + api.TMessage, repeated + api.TMessage, mapped + api.TMessage, ofV, mapV} {
		for _, content := range [][]byte{nil, row("80"), row("05"), row(nines + "02"), row("01 00"), row("00 00")} {
			for _, ahead := range [][]byte{nil, row("18 05"), record(api.TString, row("ff"))} {
				b, p := deep(64, number, rows(ahead, tag(number, 2), content))
				open(t, wideSchema(), "w.W", b).scalar(t, below(p, "s3"), api.ErrDepth)
			}
			b, p := deep(64, number, rows(tag(unknown, 0), row("80 00"), tag(number, 2), content))
			open(t, wideSchema(), "w.W", b).scalar(t, below(p, "s3"), api.ErrDepth)
			for _, c := range []struct {
				b []byte
				e api.Errno
			}{{tag(number, 6), api.ErrKind}, {tag(number, 4), api.ErrGroup}, {row("00"), api.ErrNumber}, {tag(number, 0), api.ErrEnds}, {tag(number, 3), api.ErrDepth}} {
				b, p = deep(64, number, rows(c.b, tag(number, 2), content))
				if c.e != api.ErrEnds {
					open(t, wideSchema(), "w.W", b).scalar(t, below(p, "s3"), c.e)
				}
				b, p = deep(64, number, c.b)
				open(t, wideSchema(), "w.W", b).scalar(t, below(p, "s3"), c.e)
			}
		}
	}
}

func TestPairsAtDepth(t *testing.T) { // P2101, P13: in the 64th message a pair of a map of messages is at fault, without being looked into; one of numbers is none, and what lies in it counts as if it stood in the message
	group := rows(tag(unknown, 3), tag(unknown, 4))
	for _, c := range []struct {
		levels int
		b      []byte
		ask    string
		want   any
	}{
		{64, record(mapped + api.TMessage), "s3", api.ErrDepth}, {64, record(mapped+api.TMessage, row("0a 01 6b")), `m17["k"].s3`, api.ErrDepth}, {63, record(mapped + api.TMessage), "m17[\"\"].s3", nil},
		{64, record(mapped+api.TInt32, row("10 05")), `m3[""]`, num(5)}, {64, record(mapped+api.TInt32, row("10 05"), group), `m3[""]`, api.ErrDepth}, {63, record(mapped+api.TInt32, row("10 05"), group), `m3[""]`, num(5)},
		{63, record(mapped+api.TInt32, row("10 05"), tag(unknown, 3), group, tag(unknown, 4)), `m3[""]`, api.ErrDepth},
		{63, record(mapped+api.TMessage, record(2, row("18 05"))), `m17[""].s3`, num(5)}, {63, record(mapped+api.TMessage, record(2, row("18 05"), group)), `m17[""].s3`, api.ErrDepth}, {62, record(mapped+api.TMessage, record(2, row("18 05"), group)), `m17[""].s3`, num(5)},
		{63, record(mapped+api.TMessage, record(2, record(api.TMessage))), `m17[""].s3`, api.ErrDepth}, {62, record(mapped+api.TMessage, record(2, record(api.TMessage))), `m17[""].s17.s3`, nil},
		{64, rows(record(mapped+api.TInt32, row("00")), record(mapped+api.TMessage)), `m3[""]`, api.ErrDepth}, // the message that holds the map is looked into first
	} {
		for from := range 5 {
			b, p := deep(c.levels, from, c.b)
			open(t, wideSchema(), "w.W", b).scalar(t, below(p, c.ask), c.want)
		}
	}
	for from := range 5 {
		b, p := deep(64, from, record(mapped+api.TInt32, row("10 05"), group))
		v := open(t, wideSchema(), "w.W", b)
		v.asked(t, below(p, "m3"), true, api.ErrDepth, api.ErrDepth, noMessage)
	}
}

func TestMostGroups(t *testing.T) { // P2101, P13: groups in one another, in messages so deep: 64 with those around them, and one more
	for levels := 1; levels <= 64; levels++ {
		for _, more := range []int{0, 1, 5} {
			n := 64 - levels + more
			groups := rows(bytes.Repeat(tag(unknown, 3), n), bytes.Repeat(tag(unknown, 4), n))
			b, p := deep(levels, levels, rows(row("18 05"), groups))
			if levels == 1 && more > 0 {
				refuses(t, wideSchema(), "w.W", b, 2+2*63, api.ErrDepth)
				continue
			}
			want := any(num(5))
			if more > 0 {
				want = api.ErrDepth
			}
			open(t, wideSchema(), "w.W", b).scalar(t, below(p, "s3"), want)
		}
	}
}

func TestDepthOfViews(t *testing.T) { // P2106, P2101: a view that was handed out stands as deep as its message does
	for from := range 5 {
		for _, last := range []struct {
			b    []byte
			want any
		}{{row("18 05"), num(5)}, {rows(row("18 05"), record(api.TMessage)), api.ErrDepth}, {rows(row("18 05"), record(mapped+api.TMessage)), api.ErrDepth}, {rows(row("18 05"), tag(unknown, 3), tag(unknown, 4)), api.ErrDepth}} {
			b, p := deep(64, from, last.b)
			v := open(t, wideSchema(), "w.W", b)
			steps := parsed(t, v, p)
			for _, cut := range []int{1, 2, 30, len(steps) - 1, len(steps)} {
				for cut < len(steps) && steps[cut].Kind != api.SField {
					cut++ // not between a list and its value
				}
				in := along(t, v, steps[:cut])
				rest := pathOf(t, in, steps[cut:])
				in.scalar(t, below(rest, "s3"), last.want)
				got, _, e := in.Get(rest)
				if want, _ := last.want.(api.Errno); e != want || e == api.OK && !same(got, one(3, num(5))) {
					t.Errorf("P2103: from a view on: %s, %v, want %v", short(got), e, last.want)
				}
			}
		}
	}
	// The views of Each too.
	for _, number := range []int{repeated + api.TMessage, mapped + api.TMessage} {
		b, p := deep(63, 0, record(number, rows(row("12 02 18 05"))))
		if number == repeated+api.TMessage {
			b, p = deep(63, 0, record(number, row("18 05")))
		}
		all, e := open(t, wideSchema(), "w.W", b).Each(below(p, map[int]string{repeated + api.TMessage: "r17", mapped + api.TMessage: "m17"}[number]))
		if e != api.OK {
			t.Fatal(e)
		}
		for _, in := range all {
			glass{in, wideSchema(), "w.W", b}.scalar(t, "s3", num(5))
		}
	}
}

// along goes from view to view, message by message.
func along(t *testing.T, v glass, steps []api.Step) glass {
	t.Helper()
	for len(steps) > 0 {
		n := 1
		for n < len(steps) && steps[n].Kind != api.SField {
			n++
		}
		in, ok, e := v.At(pathOf(t, v, steps[:n]))
		if !ok || in == nil || e != api.OK {
			t.Fatalf("P2106: %v, %v", ok, e)
		}
		v = glass{in, v.s, leads(v.s, v.name, steps[:n]).Of, nil}
		steps = steps[n:]
	}
	return v
}

func TestWholeAtDepth(t *testing.T) { // P2103: a message, a list, a map are read whole at their depth
	for levels := 58; levels <= 63; levels++ {
		for inner := 1; inner <= 7; inner++ { // messages in one another, from there on
			chain, _ := deep(inner, 0, row("18 05"))
			b, p := deep(levels, 2, rows(record(api.TMessage, chain), record(repeated+api.TMessage, row("18 05")), record(repeated+api.TMessage, chain), record(mapped+api.TMessage, record(2, chain)), record(mapped+api.TMessage, row("0a 01 6b"))))
			v := open(t, wideSchema(), "w.W", b)
			over := levels+inner > 64
			for _, q := range []string{"s17", "r17", "r17[1]", "m17", `m17[""]`} {
				_, ok, e := v.Get(below(p, q))
				if over != (e == api.ErrDepth) || over == ok || !over && e != api.OK {
					t.Errorf("P2103: %d messages in one another at depth %d: Get(%s) = %v, %v", inner, levels, q, ok, e)
				}
			}
			for _, q := range []string{"r17[0]", `m17["k"]`} {
				if _, ok, e := v.Get(below(p, q)); !ok || e != api.OK {
					t.Errorf("P2103: beside messages that are too deep: Get(%s) = %v, %v", q, ok, e)
				}
			}
		}
	}
}
