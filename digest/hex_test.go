package digest_test

import (
	"bytes"
	"encoding/hex"
	"strings"
	"testing"

	"sigil/api"
	"sigil/digest"
)

func TestHexExamples(t *testing.T) { // P308
	if got := digest.Hex([]byte{0, 15, 255}); got != "000fff" {
		t.Errorf("P308: Hex = %q", got)
	}
	if b, e := digest.Unhex("000fff"); e != api.OK || !bytes.Equal(b, []byte{0, 15, 255}) {
		t.Errorf("P308: Unhex = %v, %v", b, e)
	}
	if b, e := digest.Unhex(""); e != api.OK || len(b) != 0 {
		t.Errorf("P308: Unhex of nothing = %v, %v", b, e)
	}
	if digest.Hex(nil) != "" || digest.Hex([]byte{}) != "" {
		t.Errorf("P308: Hex of nothing = %q", digest.Hex(nil))
	}
}

func TestHexBack(t *testing.T) { // P308: there and back
	for n := range 300 {
		b := noise(int64(n), n)
		s := digest.Hex(b)
		if s != hex.EncodeToString(b) {
			t.Fatalf("P308: Hex(%x) = %q", b, s)
		}
		if back, e := digest.Unhex(s); e != api.OK || !bytes.Equal(back, b) {
			t.Fatalf("P308: Unhex(%q) = %x, %v", s, back, e)
		}
	}
}

func TestUnhexPairs(t *testing.T) { // P308: of all texts of two bytes just those that Hex makes are read
	made := map[string]byte{}
	for v := range 256 {
		made[digest.Hex([]byte{byte(v)})] = byte(v)
	}
	if len(made) != 256 {
		t.Errorf("P308: %d texts of 256 bytes", len(made))
	}
	for v := range 1 << 16 {
		s := string([]byte{byte(v), byte(v >> 8)})
		b, e := digest.Unhex(s)
		if want, is := made[s]; is && (e != api.OK || !bytes.Equal(b, []byte{want})) || !is && (e != api.ErrHex || len(b) != 0) {
			t.Fatalf("P308: Unhex(%q) = %x, %v", s, b, e)
		}
	}
}

func TestUnhexWrong(t *testing.T) { // P308
	for _, s := range []string{
		"0", "000", "000fff0", strings.Repeat("0", 65), "0F", "0g", "g0", "F0", "aB", "Ab", "AB", " 00", "00 ", "0x", "0x00", "-1", "+1", "00\n", "\x00\x00", "٠٠", "½", "００",
	} {
		if b, e := digest.Unhex(s); e != api.ErrHex || len(b) != 0 {
			t.Errorf("P4, P308: Unhex(%q) = %x, %v", s, b, e)
		}
	}
	right := []byte(digest.Hex(noise(10, 32)))
	for i := range right {
		for _, c := range []byte("AFGg/:`@ \x00\xff") {
			wrong := bytes.Clone(right)
			wrong[i] = c
			if b, e := digest.Unhex(string(wrong)); e != api.ErrHex || len(b) != 0 {
				t.Errorf("P4, P308: Unhex(%q) = %x, %v", wrong, b, e)
			}
		}
		if b, e := digest.Unhex(string(right[:i])); (e == api.OK) != (i%2 == 0) || e != api.OK && e != api.ErrHex || len(b) != (1-i%2)*(i/2) {
			t.Errorf("P308: Unhex(%q) = %x, %v", right[:i], b, e)
		}
	}
}

func TestHexSharing(t *testing.T) { // P2
	b, whole := guarded(noise(11, 20))
	s := digest.Hex(b)
	if !whole() {
		t.Error("P2: what Hex was given, or its spare room, was changed")
	}
	one, _ := digest.Unhex(s)
	two, _ := digest.Unhex(s)
	overwrite(b)
	overwrite(one)
	if s != hex.EncodeToString(noise(11, 20)) || !bytes.Equal(two, noise(11, 20)) {
		t.Error("P2: answers share memory")
	}
}
