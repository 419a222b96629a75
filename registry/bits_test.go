package registry_test

import (
	"bytes"
	"math/rand"
	"testing"

	"sigil/api"
	"sigil/registry"
)

// turnedBits is bytes with bits turned over: those of a mask, from a bit on, counted within a byte from the lowest.
func turnedBits(b []byte, from int, mask uint64) []byte {
	b = bytes.Clone(b)
	for i := range 32 {
		if mask>>i&1 == 1 && (from+i)/8 < len(b) {
			b[(from+i)/8] ^= 1 << ((from + i) % 8)
		}
	}
	return b
}

// broken looks whether Open of a log with bits turned over, the first of which is told, answers the registry of the records ahead.
func broken(t *testing.T, log, changed []byte, first int, fronts []twin, at []int) {
	t.Helper()
	k := whole(at, first/8)
	r, n, e := registry.Open(changed)
	if e != api.OK || n != at[k] || !bytes.Equal(r.Log(), log[:at[k]]) {
		t.Fatalf("P1808: with the bit %d of %d bytes turned over: %d, %v, want %d", first, len(log), n, e, at[k])
	}
	fronts[k].r = r
	fronts[k].alike()
}

// fronts are the registries of the fronts of a log.
func fronts(t *testing.T, log []byte, at []int) []twin {
	t.Helper()
	var l []twin
	for _, n := range at {
		l = append(l, opened(t, log[:n]))
	}
	return l
}

func TestBitsTurned(t *testing.T) { // P1808: up to 32 neighbouring bits turned over, from every bit behind the head on
	log := known(t, 5)
	at := ends(log)
	l := fronts(t, log, at)
	m := rand.New(rand.NewSource(1))
	for from := 8 * len(head); from < 8*len(log); from++ {
		for _, mask := range []uint64{1, 3, 1<<32 - 1, 1<<31 | 1, 1 | uint64(m.Uint32()), 1 | uint64(m.Uint32())&uint64(m.Uint32()), 1 | uint64(m.Intn(256))} {
			broken(t, log, turnedBits(log, from, mask), from, l, at)
		}
	}
}

func TestBytesTurned(t *testing.T) { // P1808: up to four neighbouring bytes of any others
	log := known(t, 5)
	at := ends(log)
	l := fronts(t, log, at)
	m := rand.New(rand.NewSource(2))
	for from := len(head); from < len(log); from++ {
		for range 12 {
			b := bytes.Clone(log)
			k := 0
			for i := range 1 + m.Intn(4) {
				if from+i < len(b) {
					b[from+i] = byte(m.Intn(256))
				}
			}
			for k < len(b) && b[k] == log[k] {
				k++
			}
			if k < len(b) {
				broken(t, log, b, 8*k, l, at)
			}
		}
		for c := range 256 { // of one byte all
			b := bytes.Clone(log)
			if b[from] = byte(c); b[from] != log[from] && (c%16 == 0 || from%16 == 0) {
				broken(t, log, b, 8*from, l, at)
			}
		}
	}
}
