package order

// A tree is in balance by weight: of two sides with more than one entry in all, neither has more than heavy times
// what the other has. The sizes that this needs are those by which places are counted, so nothing else is kept.
const (
	heavy = 3
	// tilt tells which turn mends a side that is too heavy: a double one, if its inner half has tilt times its
	// outer half or more. With 3 and 2 one turn is always enough.
	tilt = 2
)

// entry is a key with its value.
type entry[K Key, V any] struct {
	key K
	val V
}

// node is the top of a tree; nil is the tree without entries. A node is never changed once it is made, so any
// number of maps may share it.
type node[K Key, V any] struct {
	entry[K, V]
	left, right *node[K, V]
	size        int
}

func count[K Key, V any](n *node[K, V]) int {
	if n == nil {
		return 0
	}
	return n.size
}

// fork sets an entry above two trees that are in balance with each other.
func fork[K Key, V any](left *node[K, V], e entry[K, V], right *node[K, V]) *node[K, V] {
	return &node[K, V]{e, left, right, count(left) + 1 + count(right)}
}

// level is fork for trees of which one may have got a little too heavy for the other.
func level[K Key, V any](left *node[K, V], e entry[K, V], right *node[K, V]) *node[K, V] {
	l, r := count(left), count(right)
	switch {
	case l+r <= 1:
		return fork(left, e, right)
	case r > heavy*l:
		return turnLeft(left, e, right)
	case l > heavy*r:
		return turnRight(left, e, right)
	}
	return fork(left, e, right)
}

func turnLeft[K Key, V any](left *node[K, V], e entry[K, V], right *node[K, V]) *node[K, V] {
	inner, outer := right.left, right.right
	if count(inner) < tilt*count(outer) {
		return fork(fork(left, e, inner), right.entry, outer)
	}
	return fork(fork(left, e, inner.left), inner.entry, fork(inner.right, right.entry, outer))
}

func turnRight[K Key, V any](left *node[K, V], e entry[K, V], right *node[K, V]) *node[K, V] {
	outer, inner := left.left, left.right
	if count(inner) < tilt*count(outer) {
		return fork(outer, left.entry, fork(inner, e, right))
	}
	return fork(fork(outer, left.entry, inner.left), inner.entry, fork(inner.right, e, right))
}

// link is fork for trees of any sizes: it goes down the heavier one till they are in balance.
func link[K Key, V any](left *node[K, V], e entry[K, V], right *node[K, V]) *node[K, V] {
	l, r := count(left), count(right)
	switch {
	case r > heavy*l:
		return level(link(left, e, right.left), right.entry, right.right)
	case l > heavy*r:
		return level(left.left, left.entry, link(left.right, e, right))
	}
	return fork(left, e, right)
}

// glue is link without an entry between.
func glue[K Key, V any](left, right *node[K, V]) *node[K, V] {
	if right == nil {
		return left
	}
	first, rest := takeFirst(right)
	return link(left, first, rest)
}

// takeFirst wants a tree with entries.
func takeFirst[K Key, V any](n *node[K, V]) (entry[K, V], *node[K, V]) {
	if n.left == nil {
		return n.entry, n.right
	}
	first, rest := takeFirst(n.left)
	return first, level(rest, n.entry, n.right)
}

func put[K Key, V any](n *node[K, V], e entry[K, V]) *node[K, V] {
	switch {
	case n == nil:
		return fork(nil, e, nil)
	case e.key < n.key:
		return level(put(n.left, e), n.entry, n.right)
	case n.key < e.key:
		return level(n.left, n.entry, put(n.right, e))
	}
	return fork(n.left, e, n.right)
}

// drop wants a tree that has the key.
func drop[K Key, V any](n *node[K, V], k K) *node[K, V] {
	switch {
	case k < n.key:
		return level(drop(n.left, k), n.entry, n.right)
	case n.key < k:
		return level(n.left, n.entry, drop(n.right, k))
	}
	return glue(n.left, n.right)
}

// find answers nil for a key that is not there.
func find[K Key, V any](n *node[K, V], k K) *node[K, V] {
	for n != nil {
		switch {
		case k < n.key:
			n = n.left
		case n.key < k:
			n = n.right
		default:
			return n
		}
	}
	return nil
}

// place answers nil for a place that is not there.
func place[K Key, V any](n *node[K, V], i int) *node[K, V] {
	for n != nil {
		l := count(n.left)
		switch {
		case i < l:
			n = n.left
		case l < i:
			n, i = n.right, i-l-1
		default:
			return n
		}
	}
	return nil
}

func rank[K Key, V any](n *node[K, V], k K) (int, bool) {
	below := 0
	for n != nil {
		switch {
		case k < n.key:
			n = n.left
		case n.key < k:
			below += count(n.left) + 1
			n = n.right
		default:
			return below + count(n.left), true
		}
	}
	return below, false
}

// split cuts a tree at a key: what is below it, the node that has it (or nil), what is above it.
func split[K Key, V any](n *node[K, V], k K) (below, at, above *node[K, V]) {
	switch {
	case n == nil:
		return nil, nil, nil
	case k < n.key:
		below, at, above = split(n.left, k)
		return below, at, link(above, n.entry, n.right)
	case n.key < k:
		below, at, above = split(n.right, k)
		return link(n.left, n.entry, below), at, above
	}
	return n.left, n, n.right
}

// union has the entries of both; where both have a key, those of b.
func union[K Key, V any](a, b *node[K, V]) *node[K, V] {
	switch {
	case a == nil:
		return b
	case b == nil:
		return a
	}
	below, _, above := split(a, b.key)
	return link(union(below, b.left), b.entry, union(above, b.right))
}

// sift has the entries of a whose keys b has (shared), or has not (not shared).
func sift[K Key, V any](a, b *node[K, V], shared bool) *node[K, V] {
	switch {
	case a == nil:
		return nil
	case b == nil && shared:
		return nil
	case b == nil:
		return a
	}
	below, at, above := split(b, a.key)
	left, right := sift(a.left, below, shared), sift(a.right, above, shared)
	if (at != nil) == shared {
		return link(left, a.entry, right)
	}
	return glue(left, right)
}

// each says whether it was let go through to the end.
func each[K Key, V any](n *node[K, V], yield func(K, V) bool) bool {
	return n == nil || each(n.left, yield) && yield(n.key, n.val) && each(n.right, yield)
}

// eachFrom is each, but for the keys below k.
func eachFrom[K Key, V any](n *node[K, V], k K, yield func(K, V) bool) bool {
	for n != nil && n.key < k {
		n = n.right
	}
	return n == nil || eachFrom(n.left, k, yield) && yield(n.key, n.val) && each(n.right, yield)
}
