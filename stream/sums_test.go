package stream

import (
	"math/rand"
	"testing"

	"sigil/digest"
)

func TestSums(t *testing.T) { // P303 by way of P1704: the sum of each piece, in whatever order they are asked for
	random := rand.New(rand.NewSource(1))
	for _, n := range []int{0, 1, stride - 1, stride, stride + 1, 3 * stride, 10*stride + 7} {
		b := make([]byte, n)
		random.Read(b)
		s := newSums(b)
		for range 2000 {
			from := random.Intn(n + 1)
			to := from + random.Intn(n-from+1)
			if got, want := s.of(from, to), digest.Crc(b[from:to]); got != want {
				t.Fatalf("the sum of %d to %d of %d bytes: %08x, want %08x", from, to, n, got, want)
			}
		}
		if s.of(0, n) != digest.Crc(b) {
			t.Errorf("the sum of all %d bytes", n)
		}
	}
}

func TestSumsReadNoFurther(t *testing.T) { // P1705: no byte behind a piece is looked at for its sum
	b := make([]byte, 10*stride)
	s := newSums(b)
	s.of(stride, 2*stride+1)
	for i := range b[2*stride+1:] {
		b[2*stride+1+i] = 7
	}
	if s.of(3, len(b)) != digest.Crc(b[3:]) {
		t.Error("a byte was looked at too early")
	}
}
