package stream_test

import (
	"bytes"
	"encoding/binary"
	"fmt"
	"slices"
	"strings"
	"testing"

	"sigil/api"
)

func TestLookCut(t *testing.T) { // P1703: bytes that end within the magic, the length, the frame, the sum
	h := exampleHeadFor(2)
	b := packed(t, h, as(0, 3)...)
	for n := range 85 {
		want := api.ErrHead
		if n < 8 {
			want = api.ErrMagic
		}
		headRefuses(t, b[:n], want)
	}
	for n := 85; n <= len(b); n++ {
		looks(t, b[:n], h, 85)
	}
	headRefuses(t, nil, api.ErrMagic)
	headRefuses(t, []byte{}, api.ErrMagic)
}

func TestLookTurned(t *testing.T) { // P1703: single bytes of the head changed
	h := exampleHeadFor(2)
	b := packed(t, h, as(0, 3)...)
	for at := range 85 {
		for bit := range 8 {
			changed := turned(b, at, 1<<bit)
			want := api.ErrSum
			if at < 8 {
				want = api.ErrMagic
			} else if 12+int(binary.LittleEndian.Uint32(changed[8:]))+4 > len(b) {
				want = api.ErrHead
			}
			headRefuses(t, changed, want)
		}
	}
	for at := 85; at < len(b); at++ {
		looks(t, turned(b, at, 0xff), h, 85)
	}
}

func TestLookLength(t *testing.T) { // P1703: a length that is another than the frame's
	h := exampleHeadFor(2)
	head := secondHead(h)
	inner := head[12 : len(head)-4]
	long := join(head, bytes.Repeat([]byte{7}, 300))
	for n := range 400 {
		b := join(long[:8], four(n), long[12:])
		want := api.ErrSum
		switch {
		case n == len(inner):
			looks(t, b, h, len(head))
			continue
		case 12+n+4 > len(b):
			want = api.ErrHead
		}
		headRefuses(t, b, want)
		// With a right sum behind it: the frame is cut off, or has other bytes behind it.
		if 12+n+4 <= len(b) {
			b = join(b[:12+n], sumOf(b[:12+n]), b[12+n+4:])
			headRefuses(t, b, api.ErrHead)
		}
	}
	for _, n := range []int{1 << 16, 1 << 26, 1<<31 - 1, 1 << 31, 1<<32 - 1, 1<<32 - 12, 1<<32 - 16} {
		headRefuses(t, join(long[:8], four(n), long[12:]), api.ErrHead)
	}
}

func TestLookFrames(t *testing.T) { // P1703: what is no frame of a right Head, with a right sum
	h := exampleHeadFor(2)
	parts := partsOf(h)
	name, body, typ, per := parts[0], parts[1], parts[2], parts[3]
	other := []byte(`syntax = "proto3"; message N { }`)
	looks(t, headOf(frame(parts...)), h, 85)
	looks(t, headOf(frame(name, body, []byte("g"), other, typ, per)), api.Head{Sources: append(slices.Clone(h.Sources), api.Source{Name: "g", Text: string(other)}), Type: "M", Per: 2}, 85+4+1+4+len(other))

	none := [][]byte{
		nil, {0}, {0, 0, 0}, {1, 0, 0, 0}, {255, 255, 255, 255}, []byte("no frame at all"),
		frame(), frame(nil), frame(per), frame(typ), frame(typ, per), frame(body, typ, per), frame(name, typ, per),
		frame(name, body), frame(name, body, typ), frame(name, body, per), frame(name, body, per, typ), frame(body, name, typ, per),
		frame(typ, per, name, body), frame(name, body, typ, per, nil), frame(name, body, typ, per, per), frame(nil, name, body, typ, per),
		frame(name, body, nil, typ, per), frame(name, body, name, body, typ, per), frame(name, body, []byte("g"), typ, per),
		append(frame(parts...), 0), append(frame(parts...), frame(parts...)...), frame(parts...)[:68], frame(frame(parts...)),
	}
	for _, inner := range none {
		headRefuses(t, headOf(inner), api.ErrHead)
		headRefuses(t, join(headOf(inner), make([]byte, 100)), api.ErrHead)
	}
	headRefuses(t, headOf(join(four(5), frame(parts...)[4:])), api.ErrHead)
	headRefuses(t, headOf(join(four(3), frame(parts...)[4:])), api.ErrHead)
	// As many parts as a frame may have, and more.
	for _, n := range []int{api.MaxParts, api.MaxParts + 1} {
		headRefuses(t, headOf(frame(append(slices.Repeat([][]byte{name, body}, n/2-1), typ, per)...)), api.ErrHead)
	}
}

func TestLookPer(t *testing.T) { // P1703: a Per of other than two bytes, or that none may be
	h := exampleHeadFor(2)
	parts := partsOf(h)[:3]
	for _, per := range [][]byte{nil, {}, {2}, {2, 0, 0}, {0, 0}, {1, 1}, {0, 2}, {255, 255}, {2, 0, 1}, {0, 1, 0}, {2, 0, 0, 0}, []byte("2"), []byte("\x02\x00 and more")} {
		headRefuses(t, headOf(frame(append(slices.Clone(parts), per)...)), api.ErrHead)
	}
	for _, n := range []int{1, 2, 255, 256} {
		looks(t, headOf(frame(append(slices.Clone(parts), []byte{byte(n), byte(n >> 8)})...)), exampleHeadFor(n), 85)
	}
}

func TestLookSchemas(t *testing.T) { // P1703: sources that don't load, types that are none
	for _, h := range []api.Head{
		{Type: "M", Per: 1},
		{Sources: []api.Source{{Name: "f"}}, Type: "M", Per: 1},
		{Sources: []api.Source{{Name: "", Text: one}}, Type: "M", Per: 1},
		{Sources: []api.Source{{Name: "f", Text: "message M { }"}}, Type: "M", Per: 1},
		{Sources: []api.Source{{Name: "f", Text: one}, {Name: "f", Text: `syntax = "proto3";`}}, Type: "M", Per: 1},
		{Sources: []api.Source{{Name: "f", Text: one + strings.Repeat(" ", api.MaxText)}}, Type: "M", Per: 1},
		headFor(one, "", 1), headFor(one, "N", 1), headFor(one, ".M", 1), headFor(plain, "E", 1), headFor(small, "M", 1),
		headFor(one, strings.Repeat("M", api.MaxName+1), 1),
	} {
		headRefuses(t, secondHead(h), api.ErrHead)
		headRefuses(t, turned(secondHead(h), 15, 1), api.ErrSum)
	}
	h := api.Head{Type: "M0", Per: 1}
	for i := range api.MaxFiles + 1 {
		h.Sources = append(h.Sources, api.Source{Name: fmt.Sprint("f", i), Text: fmt.Sprintf(`syntax = "proto3"; message M%d { }`, i)})
		b := secondHead(h)
		if i < api.MaxFiles {
			looks(t, b, h, len(b))
		} else {
			headRefuses(t, b, api.ErrHead)
		}
	}
}

func TestLookOnlyHead(t *testing.T) { // P1703: nothing behind the head is looked at
	h := exampleHeadFor(7)
	head := secondHead(h)
	for _, behind := range [][]byte{nil, {0}, []byte("sigstrm\x01"), head, bytes.Repeat([]byte{255}, 1000)} {
		looks(t, join(head, behind), h, len(head))
	}
	headRefuses(t, join([]byte{0}, head), api.ErrMagic)
	headRefuses(t, join([]byte("sigstrm\x00"), head[8:]), api.ErrMagic)
	headRefuses(t, join([]byte("sigstrm\x02"), head[8:]), api.ErrMagic)
	headRefuses(t, join([]byte("sigregs\x01"), head[8:]), api.ErrMagic)
}
