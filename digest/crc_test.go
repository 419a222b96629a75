package digest_test

import (
	"hash/crc32"
	"math/rand"
	"slices"
	"testing"

	"sigil/digest"
)

// modelCrc goes by the chapter's words, bit by bit.
func modelCrc(b []byte) int {
	r := uint32(0xffffffff)
	for _, c := range b {
		r ^= uint32(c)
		for range 8 {
			if r&1 == 1 {
				r = r>>1 ^ 0x82f63b78
			} else {
				r >>= 1
			}
		}
	}
	return int(^r)
}

func TestCrcExamples(t *testing.T) { // P303
	for _, c := range []struct {
		b    []byte
		want int
	}{{nil, 0}, {[]byte{}, 0}, {[]byte("123456789"), 0xE3069283}, {make([]byte, 32), 0x8A9136AA}} {
		if got := digest.Crc(c.b); got != c.want {
			t.Errorf("P303: Crc(%q) = %X, want %X", c.b, got, c.want)
		}
	}
}

func TestCrc(t *testing.T) { // P303
	castagnoli := crc32.MakeTable(crc32.Castagnoli)
	check := func(b []byte) {
		t.Helper()
		got := digest.Crc(b)
		if want := modelCrc(b); got != want || got != int(crc32.Checksum(b, castagnoli)) || got < 0 || got > 0xffffffff {
			t.Fatalf("P303: Crc(%x) = %X, want %X", b, got, want)
		}
	}
	for v := range 1 << 16 {
		check([]byte{byte(v), byte(v >> 8)})
	}
	for n := range 400 {
		check(make([]byte, n))
		check(noise(int64(n), n))
	}
	check(noise(7, 1<<20))
}

// flipped is b with the bits of a pattern turned over, from a bit on.
func flipped(b []byte, from int, pattern uint32) []byte {
	c := slices.Clone(b)
	for i := range 32 {
		if at := from + i; pattern>>i&1 == 1 && at < 8*len(c) {
			c[at/8] ^= 1 << (at % 8)
		}
	}
	return c
}

func TestNeighbouringBits(t *testing.T) { // P304
	t.Parallel()
	r := rand.New(rand.NewSource(8))
	check := func(b []byte, from int, pattern uint32) {
		t.Helper()
		if c := flipped(b, from, pattern); !slices.Equal(b, c) && digest.Crc(b) == digest.Crc(c) {
			t.Fatalf("P304: %x and %x differ within 32 neighbouring bits and have one sum", b, c)
		}
	}
	for _, n := range []int{1, 2, 3, 4, 5, 6, 9, 40, 300} {
		b := noise(int64(n), n)
		for from := range 8 * n {
			for i := range 32 {
				check(b, from, 1<<i|1)
				check(b, from, 1<<i|1<<31|1)
				check(b, from, 0xffffffff>>i)
				check(b, from, 1|r.Uint32())
			}
		}
	}
	for pattern := range uint32(1 << 16) {
		check([]byte{1, 2, 3, 4, 5, 6}, int(pattern)%17, pattern)
	}
	check(make([]byte, 8), 5, 0x82f63b78)
}

func TestThreeLists(t *testing.T) { // P304
	for n := range 200 {
		a, b, c := noise(int64(n), n), noise(int64(n+1000), n), noise(int64(n+2000), n)
		x := make([]byte, n)
		for i := range x {
			x[i] = a[i] ^ b[i] ^ c[i]
		}
		if got, want := digest.Crc(x), digest.Crc(a)^digest.Crc(b)^digest.Crc(c); got != want {
			t.Fatalf("P304: three lists of %d bytes: %X, want %X", n, got, want)
		}
	}
}

func TestCrcSharing(t *testing.T) { // P2
	b, whole := guarded(noise(9, 40))
	digest.Crc(b)
	if !whole() {
		t.Error("P2: what Crc was given, or its spare room, was changed")
	}
}
