package digest

import (
	"bytes"
	"slices"

	"sigil/api"
)

const maxFrame = 1 << 26

// Frame lays parts behind one another so that they can be told apart.
func Frame(parts [][]byte) ([]byte, api.Errno) {
	if len(parts) > api.MaxParts || frameSize(parts) > maxFrame {
		return nil, api.ErrLong
	}
	b := make([]byte, 0, frameSize(parts))
	b = putNumber(b, len(parts))
	for _, p := range parts {
		b = putNumber(b, len(p))
		b = append(b, p...)
	}
	return b, api.OK
}

// Parts tells a frame's parts.
func Parts(frame []byte) ([][]byte, api.Errno) {
	if len(frame) > maxFrame {
		return nil, api.ErrLong
	}
	count, rest, ok := takeNumber(frame)
	if !ok || count > api.MaxParts {
		return nil, api.ErrFrame
	}
	var parts [][]byte
	for range count {
		var p []byte
		if p, rest, ok = takePart(rest); !ok {
			return nil, api.ErrFrame
		}
		parts = append(parts, bytes.Clone(p))
	}
	if len(rest) > 0 {
		return nil, api.ErrFrame
	}
	return parts, api.OK
}

// Domain is the SHA-256 of a domain's name framed with parts.
func Domain(domain string, parts [][]byte) ([]byte, api.Errno) {
	b, e := Frame(slices.Concat([][]byte{[]byte(domain)}, parts))
	if e != api.OK {
		return nil, e
	}
	return Sum(b), api.OK
}

func frameSize(parts [][]byte) int {
	size := 4
	for _, p := range parts {
		size += 4 + len(p)
	}
	return size
}

func putNumber(b []byte, n int) []byte {
	return append(b, byte(n), byte(n>>8), byte(n>>16), byte(n>>24))
}

// takeNumber tells the number at the begin of b, what is behind it, and whether there is one.
func takeNumber(b []byte) (int, []byte, bool) {
	if len(b) < 4 {
		return 0, nil, false
	}
	return int(b[0]) | int(b[1])<<8 | int(b[2])<<16 | int(b[3])<<24, b[4:], true
}

// takePart tells the part at the begin of b, what is behind it, and whether there is one.
func takePart(b []byte) ([]byte, []byte, bool) {
	n, behind, ok := takeNumber(b)
	if !ok || n > len(behind) {
		return nil, nil, false
	}
	return behind[:n], behind[n:], true
}
