package wire

import "sigil/api"

// maxGroups is how many groups may be open in one another: the message around them counts as one.
const maxGroups = api.MaxDepth - 1

// Join writes records behind one another.
func Join(l []api.Record) ([]byte, api.Errno) {
	if tooMany(l) {
		return nil, api.ErrLong
	}
	if tooDeep(l, maxGroups) {
		return nil, api.ErrDepth
	}
	if e := firstFault(l); e != api.OK {
		return nil, e
	}
	size := sizeAll(l)
	if size > api.MaxMessage {
		return nil, api.ErrSize
	}
	return putAll(make([]byte, 0, size), l), api.OK
}

// Split takes bytes to pieces: their records; with an error the place of the first fault.
func Split(b []byte, strict bool) ([]api.Record, int, api.Errno) {
	r, e := Read(b, strict)
	if e != api.OK {
		return nil, 0, e
	}
	w := newWalk(r, maxGroups, true)
	for r.More() || w.inGroup() {
		if e := w.step(); e != api.OK {
			return nil, r.at, e
		}
	}
	return w.now.inner, 0, api.OK
}

// tooMany says whether there are more than MaxMessage records in all. It goes by a list of its own and stops at the bound, since nothing is known yet of how deep the records lie, and whether they ever end.
func tooMany(l []api.Record) bool {
	n := 0
	for lists := [][]api.Record{l}; len(lists) > 0; {
		last := lists[len(lists)-1]
		lists = lists[:len(lists)-1]
		if n += len(last); n > api.MaxMessage {
			return true
		}
		for _, r := range last {
			if len(r.Inner) > 0 {
				lists = append(lists, r.Inner)
			}
		}
	}
	return false
}

// tooDeep says whether more than depth groups, or records that have Inner, lie in one another.
func tooDeep(l []api.Record, depth int) bool {
	for _, r := range l {
		if r.Kind != api.WStart && len(r.Inner) == 0 {
			continue
		}
		if depth == 0 || tooDeep(r.Inner, depth-1) {
			return true
		}
	}
	return false
}

// firstFault says what is wrong with the first record that is not right.
func firstFault(l []api.Record) api.Errno {
	table := acts()
	for _, r := range l {
		if e := tagFault(r.Number, r.Kind); e != api.OK {
			return e
		}
		if r.Kind == api.WEnd {
			return api.ErrKind
		}
		if !table[r.Kind].right(r) {
			return api.ErrArg
		}
		if e := firstFault(r.Inner); e != api.OK {
			return e
		}
	}
	return api.OK
}

// sizeAll tells how many bytes right records have.
func sizeAll(l []api.Record) int {
	table, n := acts(), 0
	for _, r := range l {
		n += sizeTag(r.Number) + table[r.Kind].size(r)
	}
	return n
}

// putAll writes right records.
func putAll(b []byte, l []api.Record) []byte {
	table := acts()
	for _, r := range l {
		b = table[r.Kind].put(putTag(b, r.Number, r.Kind), r)
	}
	return b
}
