package wire

import "sigil/api"

// group is a group whose end was not met yet, with its records so far. The top, which is none, has the number 0, which no end has.
type group struct {
	number int
	inner  []api.Record
}

// walk takes records off a reader, one by one.
type walk struct {
	r      *Reader
	tag    int     // where the tag of the record begins
	depth  int     // so many groups may be open in one another
	keep   bool    // whether the records are asked for
	now    group   // the innermost group that is open, or the top
	around []group // those around it, the top first
}

func newWalk(r *Reader, depth int, keep bool) *walk {
	return &walk{r: r, tag: r.at, depth: depth, keep: keep}
}

// inGroup says whether a group is open.
func (w *walk) inGroup() bool { return len(w.around) > 0 }

// step takes off one record, or the begin or the end of a group. With an error the reader stands at the fault.
func (w *walk) step() api.Errno {
	w.tag = w.r.at
	number, kind, e := w.r.Tag()
	if e != api.OK {
		return e
	}
	return w.take(number, kind)
}

// take takes off what is behind a tag.
func (w *walk) take(number, kind int) api.Errno {
	table := acts()
	return table[kind].take(w, number)
}

// begin opens a group.
func (w *walk) begin(number int) api.Errno {
	if len(w.around) >= w.depth {
		return w.back(api.ErrDepth)
	}
	w.around = append(w.around, w.now)
	w.now = group{number: number}
	return api.OK
}

// end closes the innermost group.
func (w *walk) end(number int) api.Errno {
	if w.now.number != number {
		return w.back(api.ErrGroup)
	}
	done := api.Record{Number: number, Kind: api.WStart, Inner: w.now.inner}
	last := len(w.around) - 1
	w.now, w.around = w.around[last], w.around[:last]
	return w.add(done, api.OK)
}

// back answers an error of the tag, at whose place it is told.
func (w *walk) back(e api.Errno) api.Errno {
	w.r.at = w.tag
	return e
}

// add keeps a record, if it could be read and is asked for.
func (w *walk) add(r api.Record, e api.Errno) api.Errno {
	if w.keep && e == api.OK {
		w.now.inner = append(w.now.inner, r)
	}
	return e
}
