package project

import "strconv"

// walk is one way through a tree.
type walk struct {
	trail []int             // of where it stands
	lose  func(trail []int) // is told the trail of each field that is left out, and does not keep it
}

// down goes on to what lies behind a step.
func (w *walk) down(step int) { w.trail = append(w.trail, step) }

// up goes back.
func (w *walk) up() { w.trail = w.trail[:len(w.trail)-1] }

// dotted writes a trail's numbers with dots between.
func dotted(trail []int) string {
	b := make([]byte, 0, 4*len(trail))
	for i, n := range trail {
		if i > 0 {
			b = append(b, '.')
		}
		b = strconv.AppendInt(b, int64(n), 10)
	}
	return string(b)
}
