package digest

import "sigil/api"

const digits = "0123456789abcdef"

// Hex writes bytes as hexadecimal digits.
func Hex(b []byte) string {
	s := make([]byte, 0, 2*len(b))
	for _, c := range b {
		s = append(s, digits[c>>4], digits[c&15])
	}
	return string(s)
}

// Unhex reads them.
func Unhex(s string) ([]byte, api.Errno) {
	if len(s)%2 != 0 {
		return nil, api.ErrHex
	}
	b := make([]byte, 0, len(s)/2)
	for i := 0; i < len(s); i += 2 {
		high, ok := digitOf(s[i])
		low, also := digitOf(s[i+1])
		if !ok || !also {
			return nil, api.ErrHex
		}
		b = append(b, high<<4|low)
	}
	return b, api.OK
}

// digitOf is what a digit stands for, and whether it is one.
func digitOf(c byte) (byte, bool) {
	switch {
	case '0' <= c && c <= '9':
		return c - '0', true
	case 'a' <= c && c <= 'f':
		return c - 'a' + 10, true
	}
	return 0, false
}
