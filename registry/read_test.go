package registry_test

import (
	"bytes"
	"encoding/binary"
	"testing"

	"sigil/api"
)

func TestReadErrors(t *testing.T) { // P1805: each error of Read, and of two the first
	x := fresh(t)
	long1 := make([]byte, api.MaxMessage+1)
	numbers := []int{-1 << 63, -1, 0, 6, 257, 65537, 1<<32 + 1, 1<<63 - 1}
	none := api.Value{}
	for _, b := range [][]byte{nil, {8, 0}, long1} {
		x.reads("s", 1, 1, b, none, api.ErrSubject)
		x.reads("", 1, 1, b, none, api.ErrSubject)
		x.reads("", 0, 0, b, none, api.ErrSubject)
		x.reads(long(256), 0, 0, b, none, api.ErrLong)
	}
	x.registers("s", fileA, "M", 1, api.OK)
	x.registers("s", fileB, "M", 2, api.OK)
	x.rules("s", api.RNone, api.OK)
	x.registers("s", src(ring("A", 64, "")), "A0", 3, api.OK)
	x.registers("s", src(ring("B", 65, "repeated")), "B0", 4, api.OK)
	x.registers("s", fileC, "M", 5, api.OK)
	x.drops("s", 2, api.OK)
	for _, b := range [][]byte{nil, {8, 0}, long1} {
		for _, n := range numbers {
			x.reads(long(256), n, n, b, none, api.ErrLong)
			x.reads("t", n, n, b, none, api.ErrSubject)
			x.reads("s", n, 1, b, none, api.ErrVersion)
			x.reads("s", n, 2, b, none, api.ErrVersion) // of the one that wrote first
			x.reads("s", 1, n, b, none, api.ErrVersion)
			x.reads("s", 2, n, b, none, api.ErrVersion)
		}
		for wrote := range 5 {
			x.reads("s", wrote+1, 2, b, none, api.ErrGone)
		}
	}
	for wrote := range 5 { // ahead of what the two versions say together
		x.reads("s", wrote+1, 1, long1, none, api.ErrLong)
		x.reads("s", wrote+1, 5, long1, none, api.ErrLong)
		x.reads("s", wrote+1, 4, long1, none, api.ErrLong)
	}
	for _, b := range [][]byte{nil, {8, 0}, {10, 0}, {0xff}} { // ahead of the message's faults
		x.reads("s", 3, 4, b, none, api.ErrBreaks)
		x.reads("s", 4, 3, b, none, api.ErrCompat)
		x.reads("s", 1, 5, b, none, api.ErrCompat)
		x.reads("s", 5, 1, b, none, api.ErrCompat)
		x.reads("s", 2, 1, b, none, api.ErrCompat)
	}
	x.alike()
}

func TestReadFaults(t *testing.T) { // P1805: the errors of strict.Decode, for the version that wrote
	x := fresh(t)
	x.registers("s", src("message M { int32 a = 1; string b = 2; repeated sint32 c = 3; map<string, M> d = 4; optional bool e = 5; oneof o { fixed32 f = 6; M g = 7; } }"), "M", 1, api.OK)
	x.registers("s", src("message M { int64 a = 1; bytes b = 2; repeated sint32 c = 3; map<string, M> d = 4; reserved 5; M g = 7; repeated fixed32 f = 6; }"), "M", 2, api.OK)
	for _, c := range []struct {
		message string
		want    api.Errno
	}{
		{"\x08\x96\x81\x00", api.ErrLonger}, {"\x08\x00", api.ErrZero}, {"\x12\x00", api.ErrZero}, {"\x1a\x00", api.ErrEmpty}, {"\x18\x02", api.ErrWire},
		{"\x40\x01", api.ErrStranger}, {"\x28\x00\x08\x01", api.ErrOrder}, {"\x08", api.ErrEnds}, {"\x12\x01\xff", api.ErrUtf8}, {"\x08\x80\x80\x80\x80\x10", api.ErrForm},
		{"\x22\x00", api.ErrPair}, {"\x35\x01\x00\x00\x00\x3a\x00", api.ErrBoth}, {"\x00", api.ErrNumber}, {"\x0e", api.ErrKind}, {"\x28\x02", api.ErrForm},
		{"\x08\xff\xff\xff\xff\xff\xff\xff\xff\xff\x02", api.ErrOver}, {"\x22\x05\x0a\x01b\x12\x00\x22\x05\x0a\x01a\x12\x00", api.ErrKeys},
	} {
		x.reads("s", 1, 2, []byte(c.message), api.Value{}, c.want)
		x.reads("s", 1, 1, []byte(c.message), api.Value{}, c.want)
	}
	// Bytes that the reader would take by itself, and those that it would not.
	x.reads("s", 2, 2, []byte("\x12\x01\xff"), msg(at(2, text("\xff"))), api.OK)
	x.reads("s", 2, 2, []byte("\x28\x00"), api.Value{}, api.ErrStranger)
	x.reads("s", 1, 2, []byte("\x28\x00"), msg(), api.OK)
	x.reads("s", 1, 2, []byte("\x35\x01\x00\x00\x00"), msg(at(6, list(num(1)))), api.OK)
	x.reads("s", 1, 1, []byte("\x35\x01\x00\x00\x00"), msg(at(6, num(1))), api.OK)
	// Sixty-four messages in one another, and one more.
	deep := []byte{}
	for range 63 {
		deep = append(binary.AppendUvarint([]byte{0x3a}, uint64(len(deep))), deep...)
	}
	if _, e := x.read("s", 1, 2, deep); e != api.OK {
		t.Error(e)
	}
	deep = append(binary.AppendUvarint([]byte{0x3a}, uint64(len(deep))), deep...)
	x.reads("s", 1, 2, deep, api.Value{}, api.ErrDepth)
}

func TestRead(t *testing.T) { // P1805: what one version reads of what another wrote, dropped or not
	x := fresh(t)
	x.registers("s", src("message M { int32 a = 1; optional int32 b = 2; string c = 3; map<string, M> d = 4; }"), "M", 1, api.OK)
	x.registers("s", src("package p; message N { repeated int64 a = 1; int32 b = 2; reserved 3; map<string, N> d = 4; }"), "p.N", 2, api.OK)
	message := []byte("\x08\x05\x10\x00\x1a\x01x\x22\x0b\x0a\x01k\x12\x06\x10\x07\x1a\x02hi")
	wrote := msg(at(1, num(5)), at(2, num(0)), at(3, text("x")), at(4, dict(pair(text("k"), msg(at(2, num(7)), at(3, text("hi")))))))
	read := msg(at(1, list(num(5))), at(4, dict(pair(text("k"), msg(at(2, num(7)))))))
	for range 2 {
		x.reads("s", 1, 1, message, wrote, api.OK)
		x.reads("s", 1, 2, message, read, api.OK)
		x.reads("s", 1, 2, nil, msg(), api.OK)
		x.reads("s", 2, 1, nil, api.Value{}, api.ErrCompat)
	}
	x.drops("s", 1, api.OK)
	x.reads("s", 1, 1, message, api.Value{}, api.ErrGone)
	x.reads("s", 1, 2, message, read, api.OK)
	y := x.again()
	y.reads("s", 1, 2, message, read, api.OK)
	x.drops("s", 2, api.OK)
	x.reads("s", 1, 2, message, api.Value{}, api.ErrGone)
	x.again()
}

// filled is a message of that many bytes: the number 1 in the field 1, a text in the field 2.
func filled(size int) []byte {
	n := size - 2 - 4
	b := binary.AppendUvarint([]byte{8, 1, 0x12}, uint64(n))
	return append(b, bytes.Repeat([]byte("x"), n)...)
}

func TestReadSizes(t *testing.T) { // P1805, P1810: messages of MaxMessage bytes and one more, and readings that are larger
	x := fresh(t)
	x.registers("s", src("message M { int32 a = 1; string b = 2; }"), "M", 1, api.OK)
	x.registers("s", src("message M { int64 a = 1; bytes b = 2; }"), "M", 2, api.OK)
	x.registers("s", src("message M { repeated int64 a = 1; bytes b = 2; }"), "M", 3, api.OK)
	most := filled(api.MaxMessage)
	if len(most) != api.MaxMessage {
		t.Fatal(len(most))
	}
	want := msg(at(1, num(1)), at(2, text(string(most[6:]))))
	x.reads("s", 1, 1, most, want, api.OK)
	x.reads("s", 1, 2, most, want, api.OK)
	x.reads("s", 1, 3, most, api.Value{}, api.ErrSize) // the number has a length ahead of it
	want = msg(at(1, list(num(1))), at(2, text(string(most[7:]))))
	x.reads("s", 1, 3, filled(api.MaxMessage-1), want, api.OK)
	for reads := range 3 {
		x.reads("s", 1, reads+1, filled(api.MaxMessage+1), api.Value{}, api.ErrLong)
	}
	most[len(most)-1] = 0xff // the last byte is looked at too
	x.reads("s", 1, 3, most, api.Value{}, api.ErrUtf8)
}
