package stream

import "sigil/digest"

const (
	polynomial = 0x82f63b78 // of CRC32C: the powers of x rise from the highest bit on, and the last one has no bit
	one        = 1 << 31    // the polynomial 1
	stride     = 128
)

// sums tells the sums of pieces of bytes in a time that does not grow with their length. For a stream may be full of what looks like the begin of a block, each with a length that reaches far: if each were summed by itself, this would take the square of the stream's length.
type sums struct {
	bytes  []byte
	fronts []uint32 // of every stride bytes the sum of all that are ahead, as far as it was asked for
	step   uint32   // the power of stride
}

func newSums(b []byte) *sums {
	return &sums{bytes: b, fronts: []uint32{0}, step: power(stride)}
}

// of is the digest.Crc of the bytes from one place up to another: what the sum of all up to there has beyond that of those ahead.
func (s *sums) of(from, to int) int {
	return int(times(s.front(from), power(to-from)) ^ s.front(to))
}

// front is the sum of the first bytes.
func (s *sums) front(n int) uint32 {
	for at := len(s.fronts) * stride; at <= n; at += stride {
		last := s.fronts[len(s.fronts)-1]
		s.fronts = append(s.fronts, times(last, s.step)^s.crc(at-stride, at))
	}
	at := n / stride * stride
	return times(s.fronts[n/stride], power(n-at)) ^ s.crc(at, n)
}

func (s *sums) crc(from, to int) uint32 { return uint32(digest.Crc(s.bytes[from:to])) }

// power is by what a sum is multiplied when so many bytes come behind: the eightfold power of x, modulo the polynomial.
func power(n int) uint32 {
	p, square := uint32(one), uint32(one>>8)
	for ; n > 0; n >>= 1 {
		if n&1 == 1 {
			p = times(p, square)
		}
		square = times(square, square)
	}
	return p
}

// times multiplies two polynomials over bits, modulo that of the sum.
func times(a, b uint32) uint32 {
	p := uint32(0)
	for ; a != 0; a <<= 1 {
		if a >= one {
			p ^= b
		}
		b = b>>1 ^ polynomial*(b&1)
	}
	return p
}
