package digest

import (
	"math/bits"

	"sigil/api"
)

const digestLen = 32

// The byte ahead of what is hashed: no leaf's digest is then made of the same bytes as that of two roots.
const (
	leafMark  = 0
	aboveMark = 1
)

// Root is the digest of a digest tree over leaves.
func Root(leaves [][]byte) ([]byte, api.Errno) {
	if len(leaves) > api.MaxLeaves {
		return nil, api.ErrLong
	}
	return rootOver(leaves), api.OK
}

// Prove tells the digests beside the way from a leaf up to the root.
func Prove(leaves [][]byte, at int) ([][]byte, api.Errno) {
	if len(leaves) > api.MaxLeaves {
		return nil, api.ErrLong
	}
	if at < 0 || at >= len(leaves) {
		return nil, api.ErrLeaf
	}
	return wayOf(leaves, at), api.OK
}

// Rebuild is the root that a leaf and the digests beside its way come to.
func Rebuild(leaf []byte, at, count int, proof [][]byte) ([]byte, api.Errno) {
	if count < 1 || count > api.MaxLeaves || at < 0 || at >= count {
		return nil, api.ErrLeaf
	}
	if len(proof) != wayLen(at, count) || !areDigests(proof) {
		return nil, api.ErrLeaf
	}
	return climb(leaf, at, count, proof), api.OK
}

func rootOver(leaves [][]byte) []byte {
	switch n := len(leaves); n {
	case 0:
		return sumOf()
	case 1:
		return leafSum(leaves[0])
	default:
		k := cut(n)
		return aboveSum(rootOver(leaves[:k]), rootOver(leaves[k:]))
	}
}

func wayOf(leaves [][]byte, at int) [][]byte {
	if len(leaves) == 1 {
		return nil
	}
	k := cut(len(leaves))
	if at < k {
		return append(wayOf(leaves[:k], at), rootOver(leaves[k:]))
	}
	return append(wayOf(leaves[k:], at-k), rootOver(leaves[:k]))
}

// wayLen is how many digests the way of a place among so many leaves has.
func wayLen(at, count int) int {
	n := 0
	for count > 1 {
		if k := cut(count); at < k {
			count = k
		} else {
			at, count = at-k, count-k
		}
		n++
	}
	return n
}

func areDigests(proof [][]byte) bool {
	for _, d := range proof {
		if len(d) != digestLen {
			return false
		}
	}
	return true
}

// climb is the root over count leaves; proof has just the digests that the way needs.
func climb(leaf []byte, at, count int, proof [][]byte) []byte {
	if count == 1 {
		return leafSum(leaf)
	}
	k, top := cut(count), len(proof)-1
	if at < k {
		return aboveSum(climb(leaf, at, k, proof[:top]), proof[top])
	}
	return aboveSum(proof[top], climb(leaf, at-k, count-k, proof[:top]))
}

// cut is the greatest power of two below n, which is at least 2.
func cut(n int) int { return 1 << (bits.Len(uint(n-1)) - 1) }

func leafSum(leaf []byte) []byte { return sumOf([]byte{leafMark}, leaf) }

func aboveSum(left, right []byte) []byte { return sumOf([]byte{aboveMark}, left, right) }
