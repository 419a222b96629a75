package stream

import (
	"bytes"
	"slices"

	"sigil/api"
	"sigil/bind"
	"sigil/digest"
	"sigil/wire"
)

const (
	magic   = "sigstrm\x01"
	domain  = "sigil stream" // of the mark
	markLen = 16
	fourLen = 4 // of every number but a record's length, and of a sum
)

// head is a right Head, with what comes of it.
type head struct {
	api.Head
	schema *bind.Schema
	bytes  []byte // as they stand in front of the stream
	mark   []byte // of the stream's blocks
}

// newHead tells the head that comes of a Head, or why that is not right.
func newHead(h api.Head) (head, api.Errno) {
	s, bad := bind.Load(h.Sources)
	if bad.Err != api.OK {
		return head{}, api.ErrHead
	}
	if _, e := s.Message(h.Type); e != api.OK {
		return head{}, e
	}
	if h.Per < 1 || h.Per > api.MaxPer {
		return head{}, api.ErrArg
	}
	b := headBytes(h)
	d, _ := digest.Domain(domain, [][]byte{b})
	return head{Head: h, schema: s, bytes: b, mark: d[:markLen]}, api.OK
}

// openHead reads the head in front of a stream.
func openHead(b []byte) (head, api.Errno) {
	if len(b) > api.MaxLog {
		return head{}, api.ErrLong
	}
	if !bytes.HasPrefix(b, []byte(magic)) {
		return head{}, api.ErrMagic
	}
	const ahead = len(magic) + fourLen // of the frame
	if len(b) < ahead {
		return head{}, api.ErrHead
	}
	to := ahead + numberOf(b[len(magic):])
	if to > len(b)-fourLen {
		return head{}, api.ErrHead
	}
	if digest.Crc(b[:to]) != numberOf(b[to:]) {
		return head{}, api.ErrSum
	}
	h, e := newHead(readParts(b[ahead:to]))
	// Whatever else may be wrong with the parts is seen by this: they are not as they are written.
	if e != api.OK || !bytes.Equal(h.bytes, b[:to+fourLen]) {
		return head{}, api.ErrHead
	}
	return h, api.OK
}

// headBytes writes a right Head. It has few parts, none of which is long.
func headBytes(h api.Head) []byte {
	var parts [][]byte
	for _, p := range headParts() {
		parts = append(parts, p.write(h)...)
	}
	frame, _ := digest.Frame(parts)
	b := slices.Concat([]byte(magic), four(len(frame)), frame)
	return append(b, four(digest.Crc(b))...)
}

// readParts tells the Head that stands in a frame; of what is no frame one that is not right.
func readParts(frame []byte) api.Head {
	var h api.Head
	parts, _ := digest.Parts(frame)
	for _, p := range slices.Backward(headParts()) {
		parts = p.read(&h, parts)
	}
	return h
}

// headPart is how one field of a Head is written as parts of the frame, and read from the last ones: it then tells those ahead of them.
type headPart struct {
	write func(h api.Head) [][]byte
	read  func(h *api.Head, parts [][]byte) [][]byte
}

// headParts makes the table of the fields, in the order of their parts.
func headParts() []headPart {
	return []headPart{
		{
			write: func(h api.Head) [][]byte {
				var parts [][]byte
				for _, s := range h.Sources {
					parts = append(parts, []byte(s.Name), []byte(s.Text))
				}
				return parts
			},
			read: func(h *api.Head, parts [][]byte) [][]byte {
				for ; len(parts) > 1; parts = parts[2:] {
					h.Sources = append(h.Sources, api.Source{Name: string(parts[0]), Text: string(parts[1])})
				}
				return parts
			},
		},
		{
			write: func(h api.Head) [][]byte { return [][]byte{[]byte(h.Type)} },
			read: func(h *api.Head, parts [][]byte) [][]byte {
				last, ahead := takeLast(parts)
				h.Type = string(last)
				return ahead
			},
		},
		{
			write: func(h api.Head) [][]byte { return [][]byte{{byte(h.Per), byte(h.Per >> 8)}} },
			read: func(h *api.Head, parts [][]byte) [][]byte {
				last, ahead := takeLast(parts)
				if len(last) > 1 {
					h.Per = int(last[0]) | int(last[1])<<8
				}
				return ahead
			},
		},
	}
}

// takeLast tells the last part, and those ahead of it; of none there is nothing.
func takeLast(parts [][]byte) ([]byte, [][]byte) {
	if len(parts) == 0 {
		return nil, nil
	}
	last := len(parts) - 1
	return parts[last], parts[:last]
}

// four is a number's four bytes, the lowest first.
func four(n int) []byte {
	b, _ := wire.Fixed(n, fourLen)
	return b
}

// numberOf tells the number whose four bytes stand in front.
func numberOf(b []byte) int {
	return int(b[0]) | int(b[1])<<8 | int(b[2])<<16 | int(b[3])<<24
}
