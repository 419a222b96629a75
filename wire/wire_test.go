package wire_test

import (
	"bytes"
	"encoding/hex"
	"math"
	"math/bits"
	"math/rand"
	"strings"
	"testing"
	"unicode/utf8"

	"sigil/api"
	"sigil/wire"
)

// What the chapter lists: a signature that strays from it does not compile.
var (
	_ func(int) []byte                                  = wire.Varint
	_ func(int) int                                     = wire.Zig
	_ func(int) int                                     = wire.Zag
	_ func(int, int) ([]byte, api.Errno)                = wire.Fixed
	_ func(int, int) ([]byte, api.Errno)                = wire.Tag
	_ func(string) ([]byte, api.Errno)                  = wire.Text
	_ func(string) int                                  = wire.Utf8
	_ func([]api.Record) ([]byte, api.Errno)            = wire.Join
	_ func([]byte, bool) ([]api.Record, int, api.Errno) = wire.Split
	_ func([]byte, bool) (*wire.Reader, api.Errno)      = wire.Read
	_ func(*wire.Reader) int                            = (*wire.Reader).At
	_ func(*wire.Reader) bool                           = (*wire.Reader).More
	_ func(*wire.Reader) (int, api.Errno)               = (*wire.Reader).Varint
	_ func(*wire.Reader, int) (int, api.Errno)          = (*wire.Reader).Fixed
	_ func(*wire.Reader) (string, api.Errno)            = (*wire.Reader).Text
	_ func(*wire.Reader) (int, int, api.Errno)          = (*wire.Reader).Tag
	_ func(*wire.Reader, int, int, int) api.Errno       = (*wire.Reader).Skip
)

// unhex reads bytes written as hexadecimal digits, blanks between them or not.
func unhex(s string) []byte {
	b, err := hex.DecodeString(strings.ReplaceAll(s, " ", ""))
	if err != nil {
		panic(err)
	}
	return b
}

// edges are numbers at which something changes: the ends of each length of a varint, of 32 and of 64 bits, and those beside them.
func edges() []int {
	l := []int{math.MinInt, math.MinInt + 1, math.MaxInt - 1, math.MaxInt, math.MinInt32, math.MaxInt32, math.MaxUint32, api.MaxNumber, api.MaxMessage}
	for i := range 64 {
		v := 1 << i
		l = append(l, v-1, v, v+1, -v-1, -v, 1-v)
	}
	return l
}

// sample is the edges and many numbers of all lengths.
func sample() []int {
	l := edges()
	r := rand.New(rand.NewSource(2))
	for range 20000 {
		l = append(l, int(r.Uint64()>>r.Intn(64)))
	}
	return l
}

// slowVarint writes a varint by dividing: the digits of a number to the base 128.
func slowVarint(v int) []byte {
	var b []byte
	for u := uint64(v); ; u /= 128 {
		if u < 128 {
			return append(b, byte(u))
		}
		b = append(b, byte(u%128+128))
	}
}

func TestVarint(t *testing.T) { // P201
	for v, want := range map[int]string{
		0: "00", 1: "01", 127: "7f", 128: "80 01", 300: "ac 02", 16383: "ff 7f", 16384: "80 80 01",
		-1:            "ff ff ff ff ff ff ff ff ff 01",
		math.MinInt:   "80 80 80 80 80 80 80 80 80 01",
		math.MaxInt:   "ff ff ff ff ff ff ff ff 7f",
		1<<56 - 1:     "ff ff ff ff ff ff ff 7f",
		1 << 56:       "80 80 80 80 80 80 80 80 01",
		math.MinInt32: "80 80 80 80 f8 ff ff ff ff 01",
	} {
		if b := wire.Varint(v); !bytes.Equal(b, unhex(want)) {
			t.Errorf("P201: Varint(%d) = %x, want %s", v, b, want)
		}
	}
	for _, v := range sample() {
		b := wire.Varint(v)
		if !bytes.Equal(b, slowVarint(v)) {
			t.Errorf("P201: Varint(%d) = %x, want %x", v, b, slowVarint(v))
		}
		if most := max(1, (bits.Len64(uint64(v))+6)/7); len(b) != most {
			t.Errorf("P201: Varint(%d) has %d bytes, want %d", v, len(b), most)
		}
		if v < 0 && (len(b) != 10 || b[9] != 1) {
			t.Errorf("P201: Varint(%d) = %x, want ten bytes, the last 01", v, b)
		}
	}
}

func TestZigzag(t *testing.T) { // P202
	for v, want := range map[int]int{
		0: 0, -1: 1, 1: 2, -2: 3, 2: 4, 2147483647: 4294967294, -2147483648: 4294967295,
		math.MinInt: -1, math.MaxInt: -2, math.MinInt + 1: -3, 1 << 62: math.MinInt, -1 << 62: math.MaxInt,
	} {
		if z := wire.Zig(v); z != want {
			t.Errorf("P202: Zig(%d) = %d, want %d", v, z, want)
		}
		if n := wire.Zag(want); n != v {
			t.Errorf("P202: Zag(%d) = %d, want %d", want, n, v)
		}
	}
	for n := range 1000 {
		if wire.Zig(n) != 2*n || wire.Zig(-n-1) != 2*n+1 {
			t.Errorf("P202: Zig(%d) = %d, Zig(%d) = %d", n, wire.Zig(n), -n-1, wire.Zig(-n-1))
		}
	}
	for _, v := range sample() {
		if n := wire.Zag(wire.Zig(v)); n != v {
			t.Errorf("P202: Zag(Zig(%d)) = %d", v, n)
		}
		if n := wire.Zig(wire.Zag(v)); n != v {
			t.Errorf("P202: Zig(Zag(%d)) = %d", v, n)
		}
	}
}

func TestFixed(t *testing.T) { // P203
	for _, c := range []struct {
		v, size int
		want    string
		e       api.Errno
	}{
		{1, 4, "01 00 00 00", 0}, {0, 4, "00 00 00 00", 0}, {0x04030201, 4, "01 02 03 04", 0}, {math.MaxUint32, 4, "ff ff ff ff", 0},
		{1, 8, "01 00 00 00 00 00 00 00", 0}, {-1, 8, "ff ff ff ff ff ff ff ff", 0}, {0x0807060504030201, 8, "01 02 03 04 05 06 07 08", 0},
		{math.MinInt, 8, "00 00 00 00 00 00 00 80", 0}, {math.MaxInt, 8, "ff ff ff ff ff ff ff 7f", 0}, {math.MaxUint32 + 1, 8, "00 00 00 00 01 00 00 00", 0},
		{-1, 4, "", api.ErrArg}, {math.MinInt, 4, "", api.ErrArg}, {math.MaxUint32 + 1, 4, "", api.ErrArg}, {math.MaxInt, 4, "", api.ErrArg},
	} {
		if b, e := wire.Fixed(c.v, c.size); e != c.e || !bytes.Equal(b, unhex(c.want)) {
			t.Errorf("P203: Fixed(%d, %d) = %x, %v, want %s, %v", c.v, c.size, b, e, c.want, c.e)
		}
	}
	for _, size := range []int{math.MinInt, -8, -4, -1, 0, 1, 2, 3, 5, 6, 7, 9, 12, 16, 1<<32 + 4, math.MaxInt} {
		for _, v := range []int{0, 1, -1} {
			if b, e := wire.Fixed(v, size); e != api.ErrArg || len(b) > 0 {
				t.Errorf("P203: Fixed(%d, %d) = %x, %v, want ErrArg", v, size, b, e)
			}
		}
	}
}

func TestTag(t *testing.T) { // P204
	for _, c := range []struct {
		number, kind int
		want         string
		e            api.Errno
	}{
		{1, 0, "08", 0}, {1, 1, "09", 0}, {1, 2, "0a", 0}, {1, 3, "0b", 0}, {1, 4, "0c", 0}, {1, 5, "0d", 0},
		{15, 5, "7d", 0}, {16, 0, "80 01", 0}, {16, 2, "82 01", 0}, {2047, 0, "f8 7f", 0}, {2048, 0, "80 80 01", 0},
		{536870911, 0, "f8 ff ff ff 0f", 0}, {536870911, 5, "fd ff ff ff 0f", 0},
		{0, 0, "", api.ErrNumber}, {0, 9, "", api.ErrNumber}, {-1, 0, "", api.ErrNumber}, {536870912, 0, "", api.ErrNumber}, {536870912, -1, "", api.ErrNumber},
		{math.MinInt, 0, "", api.ErrNumber}, {math.MaxInt, 0, "", api.ErrNumber}, {1 << 61, 0, "", api.ErrNumber}, {1<<61 + 1, 0, "", api.ErrNumber},
		{1, 6, "", api.ErrKind}, {1, 7, "", api.ErrKind}, {1, 8, "", api.ErrKind}, {1, -1, "", api.ErrKind}, {536870911, 6, "", api.ErrKind},
		{1, math.MinInt, "", api.ErrKind}, {1, math.MaxInt, "", api.ErrKind},
	} {
		if b, e := wire.Tag(c.number, c.kind); e != c.e || !bytes.Equal(b, unhex(c.want)) {
			t.Errorf("P204: Tag(%d, %d) = %x, %v, want %s, %v", c.number, c.kind, b, e, c.want, c.e)
		}
	}
}

func TestText(t *testing.T) { // P205
	for s, want := range map[string]string{"": "00", "hi": "02 68 69", "\xff\x00": "02 ff 00", strings.Repeat("a", 3): "03 61 61 61"} {
		if b, e := wire.Text(s); e != api.OK || !bytes.Equal(b, unhex(want)) {
			t.Errorf("P205: Text(%q) = %x, %v, want %s", s, b, e, want)
		}
	}
	for _, n := range []int{127, 128, 16383, 16384, api.MaxMessage - 1, api.MaxMessage} {
		s := strings.Repeat("\x80", n)
		if b, e := wire.Text(s); e != api.OK || string(b) != string(slowVarint(n))+s {
			t.Errorf("P205: Text of %d bytes: %d bytes, %v", n, len(b), e)
		}
	}
	for _, n := range []int{api.MaxMessage + 1, 2 * api.MaxMessage} {
		if b, e := wire.Text(strings.Repeat("x", n)); e != api.ErrLong || len(b) > 0 {
			t.Errorf("P205: Text of %d bytes: %d bytes, %v, want ErrLong", n, len(b), e)
		}
	}
}

func TestUtf8(t *testing.T) { // P206
	for s, want := range map[string]int{
		"": -1, "a": -1, "\x00\x7f": -1, "aé": -1, "a\xff": 1, "\xc3": 0, "\xed\xa0\x80": 0, "x\xf4\x90\x80\x80": 1, "\xc0\x80": 0,
		// Each form: its least and its greatest.
		"\xc2\x80\xdf\xbf": -1, "\xe0\xa0\x80\xe0\xbf\xbf": -1, "\xe1\x80\x80\xec\xbf\xbf": -1, "\xed\x80\x80\xed\x9f\xbf": -1,
		"\xee\x80\x80\xef\xbf\xbf": -1, "\xf0\x90\x80\x80\xf0\xbf\xbf\xbf": -1, "\xf1\x80\x80\x80\xf3\xbf\xbf\xbf": -1, "\xf4\x80\x80\x80\xf4\x8f\xbf\xbf": -1,
		// Beside them.
		"a\x80": 1, "a\xbf": 1, "a\xc1\xbf": 1, "é\xe0\x9f\xbf": 2, "é\xed\xa0\x80": 2, "é\xf0\x8f\xbf\xbf": 2, "é\xf4\x90\x80\x80": 2, "é\xf5\x80\x80\x80": 2, "\xc3\x28": 0, "\xc3\xc0": 0,
		// Cut short, and where a character stands before a fault.
		"aa\xe2\x82": 2, "€\xe2": 3, "\xf0\x9f\x98": 0, "😀\xf0\x9f": 4, "\xe2\x28\xa1": 0, "\xe2\x82\x28": 0, "\xf0\x9f\x98\x28": 0, "\xf0\x9f\x28\x80": 0,
	} {
		if at := wire.Utf8(s); at != want {
			t.Errorf("P206: Utf8(%q) = %d, want %d", s, at, want)
		}
	}
	long := strings.Repeat("aé€😀", 1<<18)
	if at := wire.Utf8(long); at != -1 {
		t.Errorf("P206: Utf8 of a long text: %d", at)
	}
	if at := wire.Utf8(long + "\xff"); at != len(long) {
		t.Errorf("P206: Utf8 of a long text and a fault: %d, want %d", at, len(long))
	}
}

// badAt is the place of the first fault by the library's own reading.
func badAt(s string) int {
	for at := 0; at < len(s); {
		r, n := utf8.DecodeRuneInString(s[at:])
		if r == utf8.RuneError && n == 1 {
			return at
		}
		at += n
	}
	return -1
}

func TestUtf8AllForms(t *testing.T) { // P206
	beside := []byte{0x00, 0x7f, 0x80, 0x8f, 0x90, 0x9f, 0xa0, 0xbf, 0xc0, 0xc2, 0xe0, 0xf4, 0xff}
	for first := range 256 {
		for second := range 256 {
			for _, third := range beside {
				for _, fourth := range beside {
					b := string([]byte{byte(first), byte(second), third, fourth})
					for n := 1; n <= 4; n++ {
						if at, want := wire.Utf8(b[:n]), badAt(b[:n]); at != want {
							t.Fatalf("P206: Utf8(%x) = %d, want %d", b[:n], at, want)
						}
					}
				}
			}
		}
	}
	for c := range 0x110000 {
		s := string(rune(c))
		if c >= 0xd800 && c <= 0xdfff {
			s = string([]byte{0xe0 | byte(c>>12), 0x80 | byte(c>>6&0x3f), 0x80 | byte(c&0x3f)})
		}
		if at, want := wire.Utf8(s), badAt(s); at != want {
			t.Fatalf("P206: Utf8(%x) = %d, want %d", s, at, want)
		}
	}
}

func TestAnswersAreNew(t *testing.T) { // P2, P3
	group := []api.Record{{Number: 1, Kind: api.WStart, Inner: []api.Record{{Number: 2, Num: 5}}}, {Number: 2, Kind: api.WText, Text: "hi"}}
	for name, call := range map[string]func() []byte{
		"Varint": func() []byte { return wire.Varint(300) },
		"Fixed":  func() []byte { b, _ := wire.Fixed(-2, 8); return b },
		"Tag":    func() []byte { b, _ := wire.Tag(16, 2); return b },
		"Text":   func() []byte { b, _ := wire.Text("hi"); return b },
		"Join":   func() []byte { b, _ := wire.Join(group); return b },
	} {
		first, second := call(), call()
		want := bytes.Clone(first)
		room := first[:cap(first)]
		for i := range room {
			room[i] ^= 0xff
		}
		if third := call(); len(want) == 0 || !bytes.Equal(second, want) || !bytes.Equal(third, want) {
			t.Errorf("P2: %s: %x, then %x and %x, once the first was changed", name, want, second, third)
		}
	}
}
