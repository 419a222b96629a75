package diff

import "iter"

// shared tells how many values two lists have in common from the front on, and how many of the others at the end.
func shared[T any](a, b []T, same func(x, y T) bool) (front, end int) {
	short := min(len(a), len(b))
	for front < short && same(a[front], b[front]) {
		front++
	}
	for end < short-front && same(a[len(a)-1-end], b[len(b)-1-end]) {
		end++
	}
	return front, end
}

// beside goes through two lists that rise: what has its like in the other list stands beside it, all else beside nil.
func beside[T any](a, b []T, order func(x, y *T) int) iter.Seq2[*T, *T] {
	return func(yield func(x, y *T) bool) {
		for i, k := 0, 0; i < len(a) || k < len(b); {
			var x, y *T
			side := leader(a[i:], b[k:], order)
			if side <= 0 {
				x = &a[i]
				i++
			}
			if side >= 0 {
				y = &b[k]
				k++
			}
			if !yield(x, y) {
				return
			}
		}
	}
}

// leader tells which of two lists, of which one may be empty, has the lesser first value: -1 the left one, 1 the right one, 0 neither.
func leader[T any](a, b []T, order func(x, y *T) int) int {
	switch {
	case len(a) == 0:
		return 1
	case len(b) == 0:
		return -1
	}
	return order(&a[0], &b[0])
}
