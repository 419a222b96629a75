package wire

import "sigil/api"

// Reader reads bytes from a place on.
type Reader struct {
	b      string // a string, so that texts need no copy of their own
	at     int
	strict bool
}

// Read begins at the front of the bytes; strict: varints must be shortest.
func Read(b []byte, strict bool) (*Reader, api.Errno) {
	if len(b) > api.MaxMessage {
		return nil, api.ErrLong
	}
	return &Reader{b: string(b), strict: strict}, api.OK
}

// At tells the place.
func (r *Reader) At() int { return r.at }

// More says whether a byte is left.
func (r *Reader) More() bool { return r.at < len(r.b) }

// Varint reads a varint.
func (r *Reader) Varint() (int, api.Errno) {
	v := uint64(0)
	for i, at := 0, r.at; at < len(r.b); i, at = i+1, at+1 {
		c := r.b[at]
		if i == 9 && c > 1 {
			return 0, api.ErrOver
		}
		v |= uint64(c&0x7f) << (7 * i)
		if c > 0x7f {
			continue
		}
		if r.strict && i > 0 && c == 0 {
			return 0, api.ErrLonger
		}
		r.at = at + 1
		return int(v), api.OK
	}
	return 0, api.ErrEnds
}

// Fixed reads four or eight bytes.
func (r *Reader) Fixed(size int) (int, api.Errno) {
	if size != 4 && size != 8 {
		return 0, api.ErrArg
	}
	if len(r.b)-r.at < size {
		return 0, api.ErrEnds
	}
	v := uint64(0)
	for i := range size {
		v |= uint64(r.b[r.at+i]) << (8 * i)
	}
	r.at += size
	return int(v), api.OK
}

// Text reads a length and so many bytes.
func (r *Reader) Text() (string, api.Errno) {
	start := r.at
	n, e := r.Varint()
	if e != api.OK {
		return "", e
	}
	// Held against each other without a sign: a length may have its highest bit set.
	if uint64(n) > uint64(len(r.b)-r.at) {
		r.at = start
		return "", api.ErrEnds
	}
	s := r.b[r.at : r.at+n]
	r.at += n
	return s, api.OK
}

// Tag reads a field's number and a wire kind.
func (r *Reader) Tag() (int, int, api.Errno) {
	start := r.at
	v, e := r.Varint()
	if e != api.OK {
		return 0, 0, e
	}
	number, kind := int(uint64(v)>>3), v&7
	if e := tagFault(number, kind); e != api.OK {
		r.at = start
		return 0, 0, e
	}
	return number, kind, api.OK
}

// Skip passes over what is behind a tag.
func (r *Reader) Skip(number, kind, depth int) api.Errno {
	if e := tagFault(number, kind); e != api.OK {
		return e
	}
	w := newWalk(r, depth, false)
	e := w.take(number, kind)
	for e == api.OK && w.inGroup() {
		e = w.step()
	}
	return e
}
