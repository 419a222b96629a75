package digest

import "math/bits"

const blockLen = 64

// state is what SHA-256 knows of the blocks that it has seen.
type state [8]uint32

var firstState = state{
	0x6a09e667, 0xbb67ae85, 0x3c6ef372, 0xa54ff53a, 0x510e527f, 0x9b05688c, 0x1f83d9ab, 0x5be0cd19,
}

var roundWords = [64]uint32{
	0x428a2f98, 0x71374491, 0xb5c0fbcf, 0xe9b5dba5, 0x3956c25b, 0x59f111f1, 0x923f82a4, 0xab1c5ed5,
	0xd807aa98, 0x12835b01, 0x243185be, 0x550c7dc3, 0x72be5d74, 0x80deb1fe, 0x9bdc06a7, 0xc19bf174,
	0xe49b69c1, 0xefbe4786, 0x0fc19dc6, 0x240ca1cc, 0x2de92c6f, 0x4a7484aa, 0x5cb0a9dc, 0x76f988da,
	0x983e5152, 0xa831c66d, 0xb00327c8, 0xbf597fc7, 0xc6e00bf3, 0xd5a79147, 0x06ca6351, 0x14292967,
	0x27b70a85, 0x2e1b2138, 0x4d2c6dfc, 0x53380d13, 0x650a7354, 0x766a0abb, 0x81c2c92e, 0x92722c85,
	0xa2bfe8a1, 0xa81a664b, 0xc24b8b70, 0xc76c51a3, 0xd192e819, 0xd6990624, 0xf40e3585, 0x106aa070,
	0x19a4c116, 0x1e376c08, 0x2748774c, 0x34b0bcb5, 0x391c0cb3, 0x4ed8aa4a, 0x5b9cca4f, 0x682e6ff3,
	0x748f82ee, 0x78a5636f, 0x84c87814, 0x8cc70208, 0x90befffa, 0xa4506ceb, 0xbef9a3f7, 0xc67178f2,
}

// after is the state behind one more block.
func after(s state, w [16]uint32) state {
	all := spread(w)
	now := s
	round := func(t int) {
		a, b, c, d, e, f, g, h := now[0], now[1], now[2], now[3], now[4], now[5], now[6], now[7]
		x := h + (turned(e, 6) ^ turned(e, 11) ^ turned(e, 25)) + choose(e, f, g) + roundWords[t] + all[t]
		y := (turned(a, 2) ^ turned(a, 13) ^ turned(a, 22)) + most(a, b, c)
		now = state{x + y, a, b, c, d + x, e, f, g}
	}
	for t := range len(all) {
		round(t)
	}
	for i := range len(s) {
		s[i] += now[i]
	}
	return s
}

// spread makes a word for each round of a block's words.
func spread(w [16]uint32) [64]uint32 {
	var all [64]uint32
	copy(all[:], w[:])
	for t := len(w); t < len(all); t++ {
		p, q := all[t-2], all[t-15]
		s1 := turned(p, 17) ^ turned(p, 19) ^ p>>10
		s0 := turned(q, 7) ^ turned(q, 18) ^ q>>3
		all[t] = s1 + all[t-7] + s0 + all[t-16]
	}
	return all
}

// turned is x turned right by n bits.
func turned(x uint32, n int) uint32 { return bits.RotateLeft32(x, -n) }

func choose(e, f, g uint32) uint32 { return e&f | ^e&g }

func most(a, b, c uint32) uint32 { return a&b | a&c | b&c }

// padding is what stands behind so many bytes to fill the last block.
func padding(count int) []byte {
	p := []byte{128}
	for (count+len(p))%blockLen != blockLen-8 {
		p = append(p, 0)
	}
	length := 8 * uint64(count)
	for shift := 56; shift >= 0; shift -= 8 {
		p = append(p, byte(length>>shift))
	}
	return p
}

func wordsOf(b [blockLen]byte) [16]uint32 {
	var w [16]uint32
	for i := range b {
		w[i/4] = w[i/4]<<8 | uint32(b[i])
	}
	return w
}

func bytesOf(s state) []byte {
	b := make([]byte, 0, digestLen)
	for _, w := range s {
		b = append(b, byte(w>>24), byte(w>>16), byte(w>>8), byte(w))
	}
	return b
}
