package digest_test

import (
	"bytes"
	"math"
	"math/rand"
	"slices"
	"strconv"
	"testing"

	"sigil/api"
	"sigil/digest"
)

func someLeaves(n int) [][]byte {
	l, b := make([][]byte, n), noise(20, 70)
	for i := range l {
		l[i] = strconv.AppendInt(slices.Clone(b[:i%len(b)]), int64(i), 10)
	}
	return l
}

// levels makes the tree from below: two neighbours make one above, and a last one that stands alone goes up as it is.
func levels(leaves [][]byte) [][][]byte {
	var low [][]byte
	for _, l := range leaves {
		low = append(low, model([]byte{0}, l))
	}
	all := [][][]byte{low}
	for len(low) > 1 {
		var high [][]byte
		for pair := range slices.Chunk(low, 2) {
			if len(pair) == 2 {
				high = append(high, model([]byte{1}, pair[0], pair[1]))
			} else {
				high = append(high, pair[0])
			}
		}
		low = high
		all = append(all, low)
	}
	return all
}

func modelRoot(leaves [][]byte) []byte {
	if len(leaves) == 0 {
		return model()
	}
	all := levels(leaves)
	return all[len(all)-1][0]
}

// modelWay tells the neighbours from below, where there are any.
func modelWay(all [][][]byte, at int) [][]byte {
	var way [][]byte
	for _, level := range all {
		if beside := at ^ 1; beside < len(level) {
			way = append(way, level[beside])
		}
		at /= 2
	}
	return way
}

// modelLen counts them.
func modelLen(at, count int) int {
	n := 0
	for ; count > 1; at, count = at/2, (count+1)/2 {
		if at^1 < count {
			n++
		}
	}
	return n
}

// modelRebuild goes up from below.
func modelRebuild(leaf []byte, at, count int, proof [][]byte) []byte {
	d := model([]byte{0}, leaf)
	for ; count > 1; at, count = at/2, (count+1)/2 {
		if at^1 >= count {
			continue
		}
		if at%2 == 0 {
			d = model([]byte{1}, d, proof[0])
		} else {
			d = model([]byte{1}, proof[0], d)
		}
		proof = proof[1:]
	}
	return d
}

func TestTreeExamples(t *testing.T) { // P309 to P311
	for _, c := range []struct {
		leaves [][]byte
		want   string
	}{
		{nil, "e3b0c44298fc1c149afbf4c8996fb92427ae41e4649b934ca495991b7852b855"},
		{[][]byte{}, "e3b0c44298fc1c149afbf4c8996fb92427ae41e4649b934ca495991b7852b855"},
		{[][]byte{nil}, "6e340b9cffb37a989ca544e6bb780a2c78901d3fb33738768511a30617afa01d"},
		{[][]byte{{}}, "6e340b9cffb37a989ca544e6bb780a2c78901d3fb33738768511a30617afa01d"},
		{words("a", "b", "c"), "36642e73c2540ab121e3a6bf9545b0a24982cd830eb13d3cd19de3ce6c021ec1"},
	} {
		if r, e := digest.Root(c.leaves); e != api.OK || digest.Hex(r) != c.want {
			t.Errorf("P309: Root(%q) = %x, %v, want %s", c.leaves, r, e, c.want)
		}
	}
	abc := words("a", "b", "c")
	way, e := digest.Prove(abc, 0)
	if e != api.OK || !same(way, [][]byte{digest.Sum([]byte("\x00b")), digest.Sum([]byte("\x00c"))}) {
		t.Errorf("P310: %x, %v", way, e)
	}
	ab, _ := digest.Root(abc[:2])
	if way, e := digest.Prove(abc, 2); e != api.OK || !same(way, [][]byte{ab}) {
		t.Errorf("P310: %x, %v", way, e)
	}
	root, _ := digest.Root(abc)
	if r, e := digest.Rebuild([]byte("c"), 2, 3, [][]byte{ab}); e != api.OK || !bytes.Equal(r, root) {
		t.Errorf("P311: %x, %v", r, e)
	}
	if r, e := digest.Rebuild([]byte("c"), 2, 3, [][]byte{ab, ab}); e != api.ErrLeaf || len(r) != 0 {
		t.Errorf("P311: two digests: %x, %v", r, e)
	}
}

func TestTrees(t *testing.T) { // P309, P310, P312: each place of each number of leaves
	t.Parallel()
	for n := range 140 {
		leaves := someLeaves(n)
		root, e := digest.Root(leaves)
		if e != api.OK || !bytes.Equal(root, modelRoot(leaves)) {
			t.Fatalf("P309: Root of %d leaves: %x, %v", n, root, e)
		}
		all := levels(leaves)
		for at := range n {
			checkPlace(t, leaves, at, all)
		}
	}
}

// checkPlace holds the way of one place against the tree that is made from below.
func checkPlace(t *testing.T, leaves [][]byte, at int, all [][][]byte) {
	t.Helper()
	n := len(leaves)
	way, e := digest.Prove(leaves, at)
	if e != api.OK || !same(way, modelWay(all, at)) {
		t.Fatalf("P310: the way of %d of %d: %x, %v", at, n, way, e)
	}
	if r, e := digest.Rebuild(leaves[at], at, n, way); e != api.OK || !bytes.Equal(r, all[len(all)-1][0]) {
		t.Fatalf("P312: Rebuild of %d of %d: %x, %v", at, n, r, e)
	}
}

func TestLargeTrees(t *testing.T) { // P309, P310, P312
	t.Parallel()
	for _, n := range []int{255, 256, 257, 1000, 32767, 32768, 32769, 65535, 65536} {
		leaves := someLeaves(n)
		all := levels(leaves)
		if root, e := digest.Root(leaves); e != api.OK || !bytes.Equal(root, all[len(all)-1][0]) {
			t.Fatalf("P309: Root of %d leaves: %x, %v", n, root, e)
		}
		for _, at := range []int{0, 1, n / 3, n/2 - 1, n / 2, n - 2, n - 1} {
			checkPlace(t, leaves, at, all)
		}
	}
}

func TestTooManyLeaves(t *testing.T) { // P309, P310
	for _, n := range []int{65537, 65538, 1 << 17} {
		leaves := make([][]byte, n)
		if r, e := digest.Root(leaves); e != api.ErrLong || len(r) != 0 {
			t.Errorf("P4, P309: Root of %d leaves: %x, %v", n, r, e)
		}
		for _, at := range []int{0, n - 1, n, -1} {
			if way, e := digest.Prove(leaves, at); e != api.ErrLong || len(way) != 0 {
				t.Errorf("P5, P310: Prove of %d leaves at %d: %x, %v", n, at, way, e)
			}
		}
	}
}

func TestNoSuchLeaf(t *testing.T) { // P310
	for _, n := range []int{0, 1, 2, 3, 7, 8, 9, 65536} {
		leaves := make([][]byte, n)
		for _, at := range []int{-1, n, n + 1, 65536, 65537, math.MinInt, math.MaxInt} {
			if way, e := digest.Prove(leaves, at); e != api.ErrLeaf || len(way) != 0 {
				t.Errorf("P4, P310: Prove of %d leaves at %d: %x, %v", n, at, way, e)
			}
		}
	}
}

func TestRebuildPlaces(t *testing.T) { // P311: wrong counts and places, with as many digests as may be
	digests := slices.Repeat([][]byte{make([]byte, 32)}, 18)
	for _, c := range [][2]int{
		{0, 0}, {-1, 0}, {0, -1}, {-1, -1}, {-1, 1}, {1, 1}, {2, 1}, {2, 2}, {3, 3}, {-1, 3}, {4, 3}, {65536, 65536}, {-1, 65536}, {0, 65537}, {65536, 65537}, {0, 131072},
		{0, math.MaxInt}, {0, math.MinInt}, {math.MaxInt, 5}, {math.MinInt, 5}, {math.MaxInt - 1, math.MaxInt}, {math.MinInt, math.MinInt},
	} {
		for n := range digests {
			if r, e := digest.Rebuild([]byte("leaf"), c[0], c[1], digests[:n]); e != api.ErrLeaf || len(r) != 0 {
				t.Errorf("P4, P311: Rebuild at %d of %d with %d digests: %x, %v", c[0], c[1], n, r, e)
			}
		}
	}
}

func TestRebuild(t *testing.T) { // P311: any digests of just the number that the way has, and no other number
	var digests [][]byte
	for i := range 20 {
		digests = append(digests, noise(int64(i), 32))
	}
	check := func(at, count int) {
		t.Helper()
		leaf := noise(int64(at), at%40)
		for n := range len(digests) + 1 {
			r, e := digest.Rebuild(leaf, at, count, digests[:n])
			if n != modelLen(at, count) {
				if e != api.ErrLeaf || len(r) != 0 {
					t.Fatalf("P4, P311: Rebuild at %d of %d with %d digests: %x, %v", at, count, n, r, e)
				}
			} else if e != api.OK || !bytes.Equal(r, modelRebuild(leaf, at, count, digests[:n])) {
				t.Fatalf("P311: Rebuild at %d of %d: %x, %v", at, count, r, e)
			}
		}
	}
	for count := 1; count <= 100; count++ {
		for at := range count {
			check(at, count)
		}
	}
	r := rand.New(rand.NewSource(19))
	for _, count := range []int{255, 256, 257, 4097, 32767, 32768, 32769, 40000, 65535, 65536} {
		for _, at := range []int{0, 1, count / 2, count - 2, count - 1, r.Intn(count), r.Intn(count)} {
			check(at, count)
		}
	}
}

func TestRebuildWrongDigests(t *testing.T) { // P311: one that has not 32 bytes, at each place of the way
	for _, c := range [][2]int{{0, 2}, {1, 2}, {0, 3}, {2, 3}, {5, 9}, {8, 9}, {0, 1000}, {999, 1000}, {65535, 65536}} {
		n := modelLen(c[0], c[1])
		for i := range n {
			for _, size := range []int{0, 1, 31, 33, 64} {
				proof := slices.Repeat([][]byte{make([]byte, 32)}, n)
				proof[i] = make([]byte, size)
				if r, e := digest.Rebuild(nil, c[0], c[1], proof); e != api.ErrLeaf || len(r) != 0 {
					t.Errorf("P4, P311: Rebuild at %d of %d with %d bytes at %d: %x, %v", c[0], c[1], size, i, r, e)
				}
				proof[i] = nil
				if r, e := digest.Rebuild(nil, c[0], c[1], proof); e != api.ErrLeaf || len(r) != 0 {
					t.Errorf("P4, P311: Rebuild at %d of %d with nil at %d: %x, %v", c[0], c[1], i, r, e)
				}
			}
		}
	}
}

func TestForged(t *testing.T) { // P312: nothing but the leaf, its place and its way comes to the root
	t.Parallel()
	for n := 1; n <= 20; n++ {
		leaves := someLeaves(n)
		root, _ := digest.Root(leaves)
		for at := range n {
			way, _ := digest.Prove(leaves, at)
			refuse := func(what string, leaf []byte, place int, proof [][]byte) {
				t.Helper()
				if r, e := digest.Rebuild(leaf, place, n, proof); e == api.OK && bytes.Equal(r, root) {
					t.Errorf("P312: leaf %d of %d: %s comes to the root", at, n, what)
				}
			}
			refuse("another leaf", []byte("x"), at, way)
			refuse("a longer leaf", append(slices.Clone(leaves[at]), 0), at, way)
			for other := range n {
				if other != at {
					refuse("another place", leaves[at], other, way)
					refuse("the leaf of another place", leaves[other], at, way)
				}
			}
			for i := range way {
				for bit := range 8 * 32 {
					way[i][bit/8] ^= 1 << (bit % 8)
					refuse("another digest", leaves[at], at, way)
					way[i][bit/8] ^= 1 << (bit % 8)
				}
			}
		}
	}
}

func TestLeafAndAbove(t *testing.T) { // P309, P312: what is hashed above leaves is no leaf
	left, right := model([]byte("\x00a")), model([]byte("\x00b"))
	root, _ := digest.Root(words("a", "b"))
	for _, leaf := range [][]byte{slices.Concat(left, right), slices.Concat([]byte{1}, left, right), slices.Concat([]byte{0}, left, right)} {
		if r, e := digest.Root([][]byte{leaf}); e != api.OK || bytes.Equal(r, root) {
			t.Errorf("P312: the leaf %x has the root of two leaves", leaf)
		}
	}
	seen := map[string]bool{}
	for _, l := range [][]string{{}, {""}, {"", ""}, {"", "", ""}, {"a"}, {"a", ""}, {"", "a"}, {"a", "a"}, {"a", "a", "a"}, {"a", "b"}, {"b", "a"}, {"ab"}, {"a", "b", "b"}} {
		r, _ := digest.Root(words(l...))
		if seen[string(r)] {
			t.Errorf("P309: the root of %q is that of another list", l)
		}
		seen[string(r)] = true
	}
}

func TestTreeSharing(t *testing.T) { // P2
	plain := append(someLeaves(6), nil, []byte("twin"), []byte("twin"), []byte("twin"), []byte("twin"))
	all := levels(plain)
	root := all[len(all)-1][0]
	leaves, whole := guardedAll(plain)
	for at := range plain {
		r, _ := digest.Root(leaves)
		way, _ := digest.Prove(leaves, at)
		again, _ := digest.Prove(leaves, at)
		want := modelWay(all, at)
		proof, proofWhole := guardedAll(want)
		one, _ := digest.Rebuild(leaves[at], at, len(plain), proof)
		two, _ := digest.Rebuild(leaves[at], at, len(plain), proof)
		if !whole() || !proofWhole() {
			t.Fatalf("P2: what a call was given at %d, or its spare room, was changed", at)
		}
		overwrite(r)
		overwrite(one)
		for i, d := range way {
			overwrite(d)
			if !same(way[i+1:], want[i+1:]) || !same(again, want) || !same(proof, want) {
				t.Fatalf("P2: digest %d of the way of %d shares memory with another list", i, at)
			}
		}
		if !bytes.Equal(two, root) || !whole() || !proofWhole() {
			t.Fatalf("P2: answers share memory with one another or with what was handed in")
		}
	}
}
