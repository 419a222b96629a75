package stream

import (
	"bytes"

	"sigil/api"
	"sigil/strict"
	"sigil/wire"
)

// varintLen is how many bytes a varint has at most.
const varintLen = 10

// block is what a block says of itself ahead of its records, but for the mark.
type block struct{ number, place, count, size int }

// sumAt is where the sum stands, from the block's begin on.
func (b block) sumAt() int { return aheadLen + b.size }

// length is how many bytes the block has.
func (b block) length() int { return b.sumAt() + fourLen }

// reader goes through the blocks of a stream.
type reader struct {
	head
	stream []byte
	sums   *sums
	at     int // behind the last block that was told
	number int // the least that the next block may have
	told   int // how many values were
	hurts  []api.Hurt
}

func newReader(h head, b []byte) *reader {
	return &reader{head: h, stream: b, sums: newSums(b), at: len(h.bytes)}
}

// values tells the values of all right blocks with their places. It is an iterator that reads a block when its first value is asked for.
func (r *reader) values(yield func(int, api.Value) bool) {
	for l := r.next(); len(l) > 0; l = r.next() {
		first := r.told - len(l)
		for i, v := range l {
			if !yield(first+i, v) {
				return
			}
		}
	}
}

// next reads the next right block: its values, none if there is no further block. The bytes that are passed over are a Hurt.
func (r *reader) next() []api.Value {
	from := r.at
	if from == len(r.stream) {
		return nil
	}
	found, l, why := r.stands(from)
	e := why
	for e != api.OK && r.at < len(r.stream) {
		r.at = r.markBehind(r.at)
		found, l, e = r.stands(r.at)
	}
	if why != api.OK {
		r.hurts = append(r.hurts, api.Hurt{From: from, To: r.at, Err: why})
	}
	if e != api.OK {
		return nil
	}
	r.number, r.at, r.told = found.number+1, r.at+found.length(), r.told+found.count
	return l
}

// markBehind is the first place behind one at which the mark stands, or the end.
func (r *reader) markBehind(at int) int {
	if i := bytes.Index(r.stream[at+1:], r.mark); i >= 0 {
		return at + 1 + i
	}
	return len(r.stream)
}

// stands tells the right block at a place with its values, or why none stands there.
func (r *reader) stands(at int) (block, []api.Value, api.Errno) {
	b := r.stream[at:]
	said, ok := r.begin(b, at)
	if !ok {
		return block{}, nil, api.ErrBlock
	}
	if r.sums.of(at, at+said.sumAt()) != numberOf(b[said.sumAt():]) {
		return block{}, nil, api.ErrSum
	}
	if r.told+said.count > api.MaxRecords {
		return block{}, nil, api.ErrRecords
	}
	l, ok := r.decoded(b[aheadLen:said.sumAt()], said.count)
	if !ok {
		return block{}, nil, api.ErrBlock
	}
	return said, l, api.OK
}

// begin tells what a block says of itself whose bytes begin at a place, and whether this may stand there and all its bytes do.
func (r *reader) begin(b []byte, at int) (block, bool) {
	if len(b) < aheadLen+fourLen || !bytes.HasPrefix(b, r.mark) {
		return block{}, false
	}
	var said [4]int
	for i := range said {
		said[i] = numberOf(b[markLen+i*fourLen:])
	}
	out := block{said[0], said[1], said[2], said[3]}
	right := out.number >= r.number && out.place == at && out.count >= 1 && out.count <= r.Per
	return out, right && out.size >= 1 && out.length() <= len(b)
}

// decoded tells the values of bytes, and whether they are just so many records.
func (h head) decoded(b []byte, count int) ([]api.Value, bool) {
	records, ok := split(b, count)
	if !ok {
		return nil, false
	}
	l := make([]api.Value, count)
	for i, record := range records {
		v, _, e := strict.Decode(h.schema, h.Type, record)
		if e != api.OK {
			return nil, false
		}
		l[i] = v
	}
	return l, true
}

// split takes bytes to pieces, and says whether they are just so many records: what stands in each behind its length.
func split(b []byte, count int) ([][]byte, bool) {
	l := make([][]byte, count)
	for i := range l {
		// The reader takes a copy: no more of the bytes than a length may have.
		r, _ := wire.Read(b[:min(varintLen, len(b))], true)
		n, e := r.Varint()
		b = b[r.At():]
		if e != api.OK || n < 0 || n > len(b) {
			return nil, false
		}
		l[i], b = b[:n], b[n:]
	}
	return l, len(b) == 0
}
