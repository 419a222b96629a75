package digest_test

import (
	"bytes"
	"crypto/sha256"
	"math/rand"
	"slices"
	"strings"
	"testing"

	"sigil/api"
	"sigil/digest"
)

// The face, as the chapter has it.
var (
	_ func() *digest.Hash                                  = digest.New
	_ func(*digest.Hash, []byte)                           = (*digest.Hash).Add
	_ func(*digest.Hash) []byte                            = (*digest.Hash).Sum
	_ func(*digest.Hash) *digest.Hash                      = (*digest.Hash).Fork
	_ func([]byte) []byte                                  = digest.Sum
	_ func([]byte) int                                     = digest.Crc
	_ func([][]byte) ([]byte, api.Errno)                   = digest.Frame
	_ func([]byte) ([][]byte, api.Errno)                   = digest.Parts
	_ func(string, [][]byte) ([]byte, api.Errno)           = digest.Domain
	_ func([]byte) string                                  = digest.Hex
	_ func(string) ([]byte, api.Errno)                     = digest.Unhex
	_ func([][]byte) ([]byte, api.Errno)                   = digest.Root
	_ func([][]byte, int) ([][]byte, api.Errno)            = digest.Prove
	_ func([]byte, int, int, [][]byte) ([]byte, api.Errno) = digest.Rebuild
)

// model is the SHA-256 of the library, over pieces behind one another.
func model(pieces ...[]byte) []byte {
	d := sha256.Sum256(slices.Concat(pieces...))
	return d[:]
}

// noise is n bytes that look like nothing, the same ones for each seed.
func noise(seed int64, n int) []byte {
	b := make([]byte, n)
	rand.New(rand.NewSource(seed)).Read(b)
	return b
}

// guarded is a copy of b with spare room behind it, and a look at whether copy and room are still as they were.
func guarded(b []byte) ([]byte, func() bool) {
	room := append(slices.Clone(b), "spare room that is no one's to write in"...)
	was := slices.Clone(room)
	return room[:len(b)], func() bool { return bytes.Equal(room, was) }
}

// guardedAll does so for a list of lists and the spare room of the list itself.
func guardedAll(l [][]byte) ([][]byte, func() bool) {
	room := make([][]byte, len(l)+3)
	var looks []func() bool
	for i := range room {
		b := []byte("behind the list")
		if i < len(l) {
			b = l[i]
		}
		g, look := guarded(b)
		room[i] = g
		looks = append(looks, look)
	}
	was := slices.Clone(room)
	return room[:len(l)], func() bool {
		for i, look := range looks {
			if !look() || len(room[i]) != len(was[i]) || cap(room[i]) != cap(was[i]) {
				return false
			}
			if cap(room[i]) > 0 && &room[i][:1][0] != &was[i][:1][0] {
				return false
			}
		}
		return true
	}
}

// overwrite fills an answer, its spare room too.
func overwrite(b []byte) {
	b = b[:cap(b)]
	for i := range b {
		b[i] = 0xEE
	}
}

func TestSumExamples(t *testing.T) { // P301
	for _, c := range []struct{ b, want string }{
		{"", "e3b0c44298fc1c149afbf4c8996fb92427ae41e4649b934ca495991b7852b855"},
		{"abc", "ba7816bf8f01cfea414140de5dae2223b00361a396177a9cb410ff61f20015ad"},
		{"abcdbcdecdefdefgefghfghighijhijkijkljklmklmnlmnomnopnopq", "248d6a61d20638b8e5c026930c3e6039a33ce45964ff2167f6ecedd419db06c1"},
		{strings.Repeat("a", 1000000), "cdc76e5c9914fb9281a1c7e284d73e67f1809a48a497200e046d39ccc7112cd0"},
		{strings.Repeat("\x00", 55), "02779466cdec163811d078815c633f21901413081449002f24aa3e80f0b88ef7"},
		{strings.Repeat("\x00", 56), "d4817aa5497628e7c77e6b606107042bbba3130888c5f47a375e6179be789fbb"},
		{strings.Repeat("\x00", 64), "f5a5fd42d16a20302798ef6ed309979b43003d2320d9f0e8ea9831a92759fb4b"},
	} {
		if got := digest.Hex(digest.Sum([]byte(c.b))); got != c.want {
			t.Errorf("P301: Sum of %d bytes: %s, want %s", len(c.b), got, c.want)
		}
	}
	if got := digest.Sum(nil); len(got) != 32 || !bytes.Equal(got, digest.Sum([]byte{})) {
		t.Errorf("P2, P301: Sum(nil) = %x", got)
	}
}

func TestSumLengths(t *testing.T) { // P301: all lengths up to some blocks, so 55, 56, 63, 64 and 119 to 128 too
	for n := range 600 {
		for _, b := range [][]byte{make([]byte, n), bytes.Repeat([]byte{255}, n), bytes.Repeat([]byte{128}, n), noise(int64(n), n)} {
			if got, want := digest.Sum(b), model(b); !bytes.Equal(got, want) {
				t.Fatalf("P301: Sum of %d bytes: %x, want %x", n, got, want)
			}
		}
	}
	for _, n := range []int{4095, 4096, 8191, 8192, 8193, 65535, 65536, 1<<20 - 9, 1 << 20} {
		b := noise(int64(n), n)
		if got, want := digest.Sum(b), model(b); !bytes.Equal(got, want) {
			t.Errorf("P301: Sum of %d bytes: %x, want %x", n, got, want)
		}
	}
}

func TestSumBits(t *testing.T) { // P301: each bit of a block counts, at its place
	b := make([]byte, 130)
	for bit := range 8 * len(b) {
		b[bit/8] ^= 1 << (bit % 8)
		if got, want := digest.Sum(b), model(b); !bytes.Equal(got, want) {
			t.Fatalf("P301: Sum with bit %d: %x, want %x", bit, got, want)
		}
		b[bit/8] ^= 1 << (bit % 8)
	}
}

func TestSumLong(t *testing.T) { // P301: the number of bits takes more than four bytes
	if testing.Short() {
		t.Skip("half a GiB")
	}
	t.Parallel()
	piece, h, want := noise(1, 1<<20), digest.New(), sha256.New()
	for range 512 {
		h.Add(piece)
		want.Write(piece)
	}
	h.Add(piece[:5])
	want.Write(piece[:5])
	if got := h.Sum(); !bytes.Equal(got, want.Sum(nil)) {
		t.Errorf("P301: Sum of 1<<29 + 5 bytes: %x, want %x", got, want.Sum(nil))
	}
}

func TestPieces(t *testing.T) { // P302
	whole := noise(2, 200)
	want := model(whole)
	for i := range len(whole) + 1 {
		for j := i; j <= len(whole); j++ {
			h := digest.New()
			h.Add(whole[:i])
			h.Add(whole[i:j])
			h.Add(whole[j:])
			if got := h.Sum(); !bytes.Equal(got, want) {
				t.Fatalf("P302: cut at %d and %d: %x, want %x", i, j, got, want)
			}
		}
	}
	for size := 1; size <= 130; size++ {
		h := digest.New()
		for p := range slices.Chunk(noise(3, 500), size) {
			h.Add(p)
			h.Add(nil)
			h.Add([]byte{})
		}
		if got := h.Sum(); !bytes.Equal(got, model(noise(3, 500))) {
			t.Fatalf("P302: pieces of %d", size)
		}
	}
}

func TestSumBetween(t *testing.T) { // P302: Sum and Fork change nothing of what a Hash holds
	whole := noise(4, 300)
	h := digest.New()
	for i := range whole {
		for range 2 {
			if got := h.Sum(); !bytes.Equal(got, model(whole[:i])) {
				t.Fatalf("P302: Sum behind %d bytes: %x", i, got)
			}
		}
		f := h.Fork()
		if f == nil || f == h {
			t.Fatalf("P302: Fork behind %d bytes is no Hash of its own", i)
		}
		f.Add(whole[:100])
		h.Add(whole[i : i+1])
		if got := f.Sum(); !bytes.Equal(got, model(whole[:i], whole[:100])) {
			t.Fatalf("P302: Fork behind %d bytes: %x", i, got)
		}
	}
	if got := h.Sum(); !bytes.Equal(got, model(whole)) {
		t.Errorf("P302: %x", got)
	}
}

func TestManyHashes(t *testing.T) { // P302: several Hashes in turns, held against the bytes that each has been given
	r := rand.New(rand.NewSource(5))
	for range 40 {
		hashes, held := []*digest.Hash{digest.New()}, [][]byte{nil}
		for range 150 {
			i := r.Intn(len(hashes))
			switch r.Intn(5) {
			case 0:
				hashes, held = append(hashes, digest.New()), append(held, nil)
			case 1:
				hashes, held = append(hashes, hashes[i].Fork()), append(held, slices.Clone(held[i]))
			default:
				b := noise(r.Int63(), r.Intn(140))
				hashes[i].Add(b)
				held[i] = append(held[i], b...)
			}
			if j := r.Intn(len(hashes)); !bytes.Equal(hashes[j].Sum(), model(held[j])) {
				t.Fatalf("P302: Hash %d of %d holds not its %d bytes", j, len(hashes), len(held[j]))
			}
		}
		for j, h := range hashes {
			if !bytes.Equal(h.Sum(), model(held[j])) {
				t.Fatalf("P302: Hash %d of %d holds not its %d bytes", j, len(hashes), len(held[j]))
			}
		}
	}
}

func TestHashSharing(t *testing.T) { // P2
	for _, n := range []int{0, 1, 55, 63, 64, 65, 128, 200} {
		b, whole := guarded(noise(6, n))
		h := digest.New()
		h.Add(b)
		one, two, three := h.Sum(), h.Sum(), digest.Sum(b)
		if !whole() {
			t.Errorf("P2: %d bytes handed in, or their spare room, were changed", n)
		}
		overwrite(b)
		overwrite(one)
		overwrite(three)
		want := model(noise(6, n))
		if !bytes.Equal(two, want) || !bytes.Equal(h.Sum(), want) || !bytes.Equal(h.Fork().Sum(), want) {
			t.Errorf("P2: a Hash of %d bytes shares memory with what it was given or answered", n)
		}
	}
}
