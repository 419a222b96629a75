package stream

import (
	"math"

	"sigil/api"
	"sigil/digest"
	"sigil/encode"
	"sigil/wire"
)

// aheadLen is how many bytes of a block stand ahead of its records: the mark, its number, its place, how many records there are, how many bytes they have.
const aheadLen = markLen + 4*fourLen

// row is which values one block takes, from the one up to the other, and how many bytes their records have.
type row struct{ from, to, size int }

// rows lays values, whose records have these sizes, into blocks.
func rows(sizes []int, per int) []row {
	var l []row
	for i, size := range sizes {
		last := len(l) - 1
		if last < 0 || l[last].to-l[last].from == per || l[last].size+size > api.MaxBlock {
			l = append(l, row{from: i, to: i})
			last++
		}
		l[last].to++
		l[last].size += size
	}
	return l
}

// writer writes the blocks of a stream.
type writer struct {
	head
	encoder *encode.Encoder
}

func newWriter(h head) writer { return writer{h, encode.New(h.schema)} }

// behind writes values behind the bytes of a stream, the first block with that number; with an error the place of the value that is refused. They are measured ahead of all: so none is written where one is refused, or all are too many bytes.
func (w writer) behind(b []byte, number int, l []api.Value) ([]byte, int, api.Errno) {
	sizes, at, e := w.sizes(l)
	if e != api.OK {
		return nil, at, e
	}
	blocks := rows(sizes, w.Per)
	if number+len(blocks)-1 > math.MaxUint32 {
		return nil, 0, api.ErrBlock
	}
	size := len(b)
	for _, r := range blocks {
		size += aheadLen + r.size + fourLen
	}
	if size > api.MaxLog {
		return nil, 0, api.ErrSize
	}
	out := append(make([]byte, 0, size), b...)
	for i, r := range blocks {
		out = w.block(out, number+i, r.size, l[r.from:r.to])
	}
	return out, 0, api.OK
}

// sizes tells how many bytes the record of each value has; with an error the place of the value that is refused.
func (w writer) sizes(l []api.Value) ([]int, int, api.Errno) {
	sizes := make([]int, len(l))
	for i, v := range l {
		n, e := w.encoder.Size(w.Type, v)
		if e != api.OK {
			return nil, i, e
		}
		sizes[i] = len(wire.Varint(n)) + n
	}
	return sizes, 0, api.OK
}

// block writes a block of values, whose records have so many bytes, behind a stream.
func (w writer) block(out []byte, number, size int, l []api.Value) []byte {
	from := len(out)
	out = append(out, w.mark...)
	for _, n := range [...]int{number, from, len(l), size} {
		out = append(out, four(n)...)
	}
	for _, v := range l {
		b, _ := w.encoder.Encode(w.Type, v)
		out = append(out, wire.Varint(len(b))...)
		out = append(out, b...)
	}
	return append(out, four(digest.Crc(out[from:]))...)
}
