package order

import (
	"math/rand"
	"testing"
)

type tree = *node[int, int]

// right says whether a tree's keys rise, its sizes are those that they say, and it is in balance.
func right(n tree) bool {
	var last *int
	var look func(n tree) bool
	look = func(n tree) bool {
		if n == nil {
			return true
		}
		l, r := count(n.left), count(n.right)
		if n.size != l+1+r || l+r > 1 && (l > heavy*r || r > heavy*l) || !look(n.left) {
			return false
		}
		if last != nil && *last >= n.key {
			return false
		}
		last = &n.key
		return look(n.right)
	}
	return look(n)
}

// shapes makes every tree in balance of each size up to most, with the keys 0, 10, 20 ...
func shapes(most int) [][]tree {
	all := [][]tree{{nil}}
	for size := 1; size <= most; size++ {
		var l []tree
		for left := range size {
			for _, a := range all[left] {
				for _, b := range all[size-1-left] {
					n := fork(a, entry[int, int]{10 * left, left}, moved(b, 10*left+10))
					if right(n) {
						l = append(l, n)
					}
				}
			}
		}
		all = append(all, l)
	}
	return all
}

// moved is the tree with all its keys higher.
func moved(n tree, by int) tree {
	if n == nil {
		return nil
	}
	return fork(moved(n.left, by), entry[int, int]{n.key + by, n.val}, moved(n.right, by))
}

func has(n tree, size int, keys ...int) bool {
	for _, k := range keys {
		if find(n, k) == nil {
			return false
		}
	}
	return count(n) == size
}

// From every tree in balance, each change that may be made leads to one.
func TestBalance(t *testing.T) {
	for size, l := range shapes(12) {
		for _, n := range l {
			for i := range size + 1 {
				if x := put(n, entry[int, int]{10*i - 5, 0}); !right(x) || !has(x, size+1, 10*i-5) {
					t.Fatalf("P102: put into a tree of %d at the place %d", size, i)
				}
				if i == size {
					break
				}
				if x := put(n, entry[int, int]{10 * i, -1}); !right(x) || !has(x, size, 10*i) {
					t.Fatalf("P102: put over a key of a tree of %d at the place %d", size, i)
				}
				if x := drop(n, 10*i); !right(x) || !has(x, size-1) || find(x, 10*i) != nil {
					t.Fatalf("P103: drop from a tree of %d at the place %d", size, i)
				}
			}
		}
	}
}

func TestLink(t *testing.T) {
	all := shapes(10)
	for i, l := range all {
		for j, m := range all {
			for _, a := range l {
				for _, b := range m {
					b = moved(b, 10*i+10)
					if x := link(a, entry[int, int]{10 * i, 0}, b); !right(x) || !has(x, i+1+j, 10*i) {
						t.Fatalf("link of a tree of %d with one of %d", i, j)
					}
					if x := glue(a, b); !right(x) || !has(x, i+j) {
						t.Fatalf("glue of a tree of %d with one of %d", i, j)
					}
				}
			}
		}
	}
}

func TestSplit(t *testing.T) {
	for size, l := range shapes(10) {
		for _, n := range l {
			for k := -5; k < 10*size; k += 5 {
				below, at, above := split(n, k)
				there := k%10 == 0
				want, _ := rank(n, k)
				if !right(below) || !right(above) || count(below) != want || (at != nil) != there {
					t.Fatalf("a tree of %d split at %d", size, k)
				}
				if there && (at.key != k || count(above) != size-want-1) || !there && count(above) != size-want {
					t.Fatalf("a tree of %d split at %d: %d above", size, k, count(above))
				}
			}
		}
	}
}

// made counts the nodes of a tree that another one has not.
func made(n tree, old map[tree]int) int {
	if n == nil || old[n] != 0 {
		return 0
	}
	return 1 + made(n.left, old) + made(n.right, old)
}

func nodes(n tree, into map[tree]int) map[tree]int {
	if n != nil {
		into[n] = 1
		nodes(n.left, into)
		nodes(n.right, into)
	}
	return into
}

func height(n tree) int {
	if n == nil {
		return 0
	}
	return 1 + max(height(n.left), height(n.right))
}

// Put and Drop copy the way from the root, and share the rest; the way is as long as the logarithm lets it be.
func TestShared(t *testing.T) { // Ways
	const n, deep = 20000, 34 // log 20000 / log (4/3)
	r := rand.New(rand.NewSource(3))
	for _, key := range []func(i int) int{
		func(i int) int { return i },
		func(i int) int { return -i },
		func(i int) int { return r.Intn(1 << 40) },
	} {
		m := New[int, int]()
		for i := range n {
			m = m.Put(key(i), i)
		}
		if h := height(m.root); h > deep {
			t.Fatalf("a tree of %d entries is %d deep", n, h)
		}
		old := nodes(m.root, map[tree]int{})
		for range 200 {
			k := r.Intn(1 << 40)
			at, _, _ := m.At(r.Intn(m.Len()))
			for what, x := range []*Map[int, int]{m.Put(k, 0), m.Put(at, -1), m.Drop(at)} {
				if c := made(x.root, old); c > 3*deep {
					t.Fatalf("call %d made %d nodes anew", what, c)
				}
			}
			if x := m.Drop(k); find(m.root, k) == nil && made(x.root, old) != 0 {
				t.Fatal("P103: a drop of what is not there made nodes anew")
			}
		}
	}
}

// Trees stay in balance over many changes, also where half of them goes at once.
func TestLongRun(t *testing.T) {
	r := rand.New(rand.NewSource(4))
	m := New[int, int]()
	for i := range 20000 {
		k := r.Intn(2000)
		switch {
		case i%500 == 0:
			m = m.Join(m.Without(New[int, int]().Put(k, 0)))
		case i%1501 == 0:
			half := New[int, int]()
			for j := range 1000 {
				half = half.Put(k+j, j)
			}
			m = m.Without(half)
		case i%1777 == 0:
			m = m.Join(m.Only(m.Put(k, 1)))
		case r.Intn(5) < 2:
			m = m.Drop(k)
		default:
			m = m.Put(k, i)
		}
		if i%50 == 0 && !right(m.root) {
			t.Fatalf("out of balance behind %d changes", i)
		}
	}
}
