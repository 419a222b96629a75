package stream_test

import (
	"bytes"
	"crypto/sha256"
	"encoding/binary"
	"hash/crc32"
	"slices"

	"sigil/api"
	"sigil/bind"
	"sigil/encode"
	"sigil/strict"
)

// The second reading: the chapter's words once more, over the library's SHA-256 and CRC32C, each place looked at by itself.

var castagnoli = crc32.MakeTable(crc32.Castagnoli)

func four(n int) []byte { return binary.LittleEndian.AppendUint32(nil, uint32(n)) }

func sumOf(b []byte) []byte { return four(int(crc32.Checksum(b, castagnoli))) }

func frame(parts ...[]byte) []byte {
	b := four(len(parts))
	for _, p := range parts {
		b = append(append(b, four(len(p))...), p...)
	}
	return b
}

// partsOf are the parts of a Head's frame.
func partsOf(h api.Head) [][]byte {
	var parts [][]byte
	for _, s := range h.Sources {
		parts = append(parts, []byte(s.Name), []byte(s.Text))
	}
	return append(parts, []byte(h.Type), binary.LittleEndian.AppendUint16(nil, uint16(h.Per)))
}

// headOf is a head with any bytes in the frame's place.
func headOf(inner []byte) []byte {
	b := slices.Concat([]byte("sigstrm\x01"), four(len(inner)), inner)
	return append(b, sumOf(b)...)
}

// secondHead is the bytes of a right Head.
func secondHead(h api.Head) []byte { return headOf(frame(partsOf(h)...)) }

// markOf is the mark of a stream whose head's bytes these are.
func markOf(head []byte) []byte {
	d := sha256.Sum256(frame([]byte("sigil stream"), head))
	return d[:16]
}

// record is the record of canonical bytes.
func record(b []byte) []byte { return append(binary.AppendUvarint(nil, uint64(len(b))), b...) }

// forged is a block, of which each part can be made wrong.
type forged struct {
	mark                       []byte
	number, place, count, size int
	records                    []byte
	turn                       byte // turns bits of the sum over
}

// right is a right block, if its records are.
func right(head []byte, number, place int, records ...[]byte) forged {
	all := slices.Concat(records...)
	return forged{mark: markOf(head), number: number, place: place, count: len(records), size: len(all), records: all}
}

func (f forged) bytes() []byte {
	b := slices.Concat(f.mark, four(f.number), four(f.place), four(f.count), four(f.size), f.records)
	b = append(b, sumOf(b)...)
	b[len(b)-1] ^= f.turn
	return b
}

// with is a block with something changed.
func (f forged) with(change func(f *forged)) []byte {
	change(&f)
	return f.bytes()
}

// secondBehind writes values behind a stream, in blocks numbered from one on.
func secondBehind(h api.Head, b []byte, number int, l []api.Value) []byte {
	s, _ := bind.Load(h.Sources)
	b = slices.Clone(b)
	for head := secondHead(h); len(l) > 0; number++ {
		var records [][]byte
		for size := 0; len(l) > 0 && len(records) < h.Per; l = l[1:] {
			one, _ := encode.New(s).Encode(h.Type, l[0])
			next := record(one)
			if size += len(next); size > api.MaxBlock && len(records) > 0 {
				break
			}
			records = append(records, next)
		}
		b = append(b, right(head, number, len(b), records...).bytes()...)
	}
	return b
}

// secondPack is a stream of values.
func secondPack(h api.Head, l []api.Value) []byte { return secondBehind(h, secondHead(h), 0, l) }

// story is what Read tells, and what it knows behind it.
type story struct {
	values []api.Value
	hurts  []api.Hurt
	starts []int // where the right blocks begin
	ends   []int // where they end
	counts []int // how many values each has
	next   int   // the number behind that of the last block
}

// secondRead is what Read tells of a stream whose head is right.
func secondRead(h api.Head, b []byte) story {
	s, _ := bind.Load(h.Sources)
	head := secondHead(h)
	var out story
	for at := len(head); at < len(b); {
		l, n, why := secondBlock(s, h, head, b, at, &out)
		q := at
		for e := why; e != api.OK && q < len(b); {
			q++
			l, n, e = secondBlock(s, h, head, b, q, &out)
		}
		if why != api.OK {
			out.hurts = append(out.hurts, api.Hurt{From: at, To: q, Err: why})
		}
		if at = q; len(l) > 0 {
			out.values = append(out.values, l...)
			out.next = int(binary.LittleEndian.Uint32(b[q+16:])) + 1
			at += n
			out.starts, out.ends, out.counts = append(out.starts, q), append(out.ends, at), append(out.counts, len(l))
		}
	}
	return out
}

// secondBlock is the values of the right block at a place and how many bytes it has, or why there is none.
func secondBlock(s *bind.Schema, h api.Head, head, b []byte, at int, so *story) ([]api.Value, int, api.Errno) {
	rest := b[at:]
	if len(rest) < 36 || !bytes.Equal(rest[:16], markOf(head)) {
		return nil, 0, api.ErrBlock
	}
	said := func(i int) int { return int(binary.LittleEndian.Uint32(rest[i:])) }
	number, place, count, size := said(16), said(20), said(24), said(28)
	if place != at || number < so.next || count < 1 || count > h.Per || size == 0 || 36+size > len(rest) {
		return nil, 0, api.ErrBlock
	}
	if !bytes.Equal(sumOf(rest[:32+size]), rest[32+size:36+size]) {
		return nil, 0, api.ErrSum
	}
	if len(so.values)+count > api.MaxRecords {
		return nil, 0, api.ErrRecords
	}
	var l []api.Value
	for records := rest[32 : 32+size]; len(l) < count || len(records) > 0; {
		n, k := binary.Uvarint(records)
		if k <= 0 || len(l) == count || k > 1 && records[k-1] == 0 || n > uint64(len(records)-k) {
			return nil, 0, api.ErrBlock
		}
		v, _, e := strict.Decode(s, h.Type, records[k:k+int(n)])
		if e != api.OK {
			return nil, 0, api.ErrBlock
		}
		l = append(l, v)
		records = records[k+int(n):]
	}
	return l, 36 + size, api.OK
}
