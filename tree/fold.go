package tree

import "sigil/api"

// folding says how a tree is folded. A node (N) is a value with what must be known of it; what comes out of a node is a T.
type folding[N, T any] struct {
	parts func(n N) int       // how many parts a node has
	part  func(n N, i int) N  // one of them
	begin func(n N) (T, bool) // what comes of a node ahead of its parts; false: it is what comes of the whole tree
	join  func(so, part T) T  // what comes of a node with one part more
	end   func(n N, so T) T   // what comes of a node with all its parts
}

// opened is a node whose parts are being gone through.
type opened[N, T any] struct {
	node N
	next int
	so   T
}

// fold goes through a tree from the left, and brings together what comes of the parts. It keeps the way down in a list, not in calls: ahead of the counting by P6 a tree may be deeper than calls may be, or lead back into itself.
func fold[N, T any](top N, f folding[N, T]) T {
	var way []opened[N, T]
	for node := top; ; {
		so, on := f.begin(node)
		if !on {
			return so
		}
		way = append(way, opened[N, T]{node: node, so: so})
		last := &way[len(way)-1]
		for last.next == f.parts(last.node) {
			part := f.end(last.node, last.so)
			way = way[:len(way)-1]
			if len(way) == 0 {
				return part
			}
			last = &way[len(way)-1]
			last.so = f.join(last.so, part)
		}
		node = f.part(last.node, last.next)
		last.next++
	}
}

// refused tells the error of a tree that may not be handed in, by P6.
func refused(v *api.Value) api.Errno {
	values := 0
	nest := fold(v, folding[*api.Value, int]{
		parts: parts,
		part:  part,
		begin: func(*api.Value) (int, bool) {
			values++
			return 0, values <= api.MaxValues
		},
		join: func(so, part int) int { return max(so, part) },
		end:  func(_ *api.Value, so int) int { return so + 1 },
	})
	switch {
	case values > api.MaxValues:
		return api.ErrLong
	case nest > api.MaxNest:
		return api.ErrDepth
	}
	return api.OK
}

// taken tells as what a tree is taken where no error is answered.
func taken(v *api.Value) *api.Value {
	if refused(v) != api.OK {
		return &api.Value{}
	}
	return v
}

// depth tells how many messages lie on a way at most.
func depth(v *api.Value) int {
	return fold(v, folding[*api.Value, int]{
		parts: parts,
		part:  part,
		begin: func(*api.Value) (int, bool) { return 0, true },
		join:  func(so, part int) int { return max(so, part) },
		end: func(v *api.Value, so int) int {
			if v.Kind == api.VMessage {
				return so + 1
			}
			return so
		},
	})
}
