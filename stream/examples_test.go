package stream_test

import (
	"bytes"
	"encoding/hex"
	"slices"
	"testing"

	"sigil/api"
	"sigil/stream"
)

// Streams that were made without the program.
const (
	exampleHead   = "7369677374726d01450000000400000001000000662d00000073796e746178203d202270726f746f33223b206d657373616765204d207b20696e7433322061203d20313b207d010000004d0200000002006c4b9fab"
	exampleBlocks = "1d9c97a23d9a6fd2c88726daf517bcc50000000055000000020000000400000002080100c4e3d7d81d9c97a23d9a6fd2c88726daf517bcc5010000007d000000010000000300000002080257845683"
	twoSources    = "7369677374726d01930000000600000001000000613700000073796e746178203d202270726f746f33223b20696d706f7274202262223b206d6573736167652041207b20622e422078203d20313b207d01000000623900000073796e746178203d202270726f746f33223b207061636b61676520623b206d6573736167652042207b20737472696e672073203d20323b207d03000000622e4202000000000176120c1e94e8e8872785f38fe2cf812f110d5c5c00000000a300000001000000050000000412026869c2913ce9"
)

// exampleHeadFor is the Head of the chapter's examples.
func exampleHeadFor(per int) api.Head { return headFor(one, "M", per) }

func unhex(t *testing.T, s string) []byte {
	t.Helper()
	b, err := hex.DecodeString(s)
	if err != nil {
		t.Fatal(err)
	}
	return b
}

func TestExampleNone(t *testing.T) { // the chapter's example 1
	b := packed(t, exampleHeadFor(2))
	if len(b) != 85 || !bytes.Equal(b, unhex(t, exampleHead)) {
		t.Errorf("P1701: %x", b)
	}
	looks(t, b, exampleHeadFor(2), 85)
	reads(t, b, nil)
}

func TestExampleBlocks(t *testing.T) { // the chapter's example 2
	three := []api.Value{a(1), a(0), a(2)}
	b := packed(t, exampleHeadFor(2), three...)
	if len(b) != 164 || !bytes.Equal(b, unhex(t, exampleHead+exampleBlocks)) {
		t.Errorf("P1701: %x", b)
	}
	if first := b[85:125]; !bytes.Equal(first[16:36], []byte{0, 0, 0, 0, 85, 0, 0, 0, 2, 0, 0, 0, 4, 0, 0, 0, 2, 8, 1, 0}) {
		t.Errorf("P1701: the first block: %x", first)
	}
	if second := b[125:]; len(second) != 39 || !bytes.Equal(second[16:35], []byte{1, 0, 0, 0, 125, 0, 0, 0, 1, 0, 0, 0, 3, 0, 0, 0, 2, 8, 2}) {
		t.Errorf("P1701: the second block: %x", second)
	}
	looks(t, b, exampleHeadFor(2), 85)
	reads(t, b, three)
}

func TestExampleHurts(t *testing.T) { // the chapter's example 3
	b := unhex(t, exampleHead+exampleBlocks)
	reads(t, b[:130], []api.Value{a(1), a(0)}, api.Hurt{From: 125, To: 130, Err: api.ErrBlock})
	reads(t, turned(b, 118, 1), []api.Value{a(2)}, api.Hurt{From: 85, To: 125, Err: api.ErrSum})
	over := join(b[:85], bytes.Repeat([]byte{7}, 40), b[125:])
	reads(t, over, []api.Value{a(2)}, api.Hurt{From: 85, To: 125, Err: api.ErrBlock})
}

func TestExampleRefused(t *testing.T) { // the chapter's example 4
	b := unhex(t, exampleHead+exampleBlocks)
	headRefuses(t, []byte("sigstrm"), api.ErrMagic)
	headRefuses(t, b[:50], api.ErrHead)
	headRefuses(t, turned(b, 20, 1), api.ErrSum)
	packRefuses(t, exampleHeadFor(0), nil, 0, api.ErrArg)
	packRefuses(t, exampleHeadFor(257), nil, 0, api.ErrArg)
	packRefuses(t, headFor("message M { }", "M", 2), nil, 0, api.ErrHead)
	packRefuses(t, exampleHeadFor(2), []api.Value{msg(at(1, num(0)))}, 0, api.ErrNormal)
}

func TestExampleLeft(t *testing.T) { // the chapter's example 5
	b := unhex(t, exampleHead+exampleBlocks)
	all, e := stream.Each(b)
	if e != api.OK {
		t.Fatal(e)
	}
	for place, v := range all {
		if place != 0 || !same(v, a(1)) {
			t.Errorf("P1705: %d: %v", place, v)
		}
		break
	}
}

func TestKnownSources(t *testing.T) { // P1701, P1703: two sources, a type in a package, Per of 256
	h := api.Head{Type: "b.B", Per: 256, Sources: []api.Source{
		{Name: "a", Text: `syntax = "proto3"; import "b"; message A { b.B x = 1; }`},
		{Name: "b", Text: `syntax = "proto3"; package b; message B { string s = 2; }`},
	}}
	b := packed(t, h, msg(at(2, text("hi"))))
	if want := unhex(t, twoSources); !bytes.Equal(b, want) {
		t.Errorf("P1701: %x, want %x", b, want)
	}
	looks(t, b, h, 163)
	slices.Reverse(h.Sources)
	looks(t, packed(t, h, msg()), h, 163)
}
