package wire

// form is one form of a character: its first byte lies from first to last, and more bytes follow, the second from low to high, those behind it from 80 to BF.
type form struct {
	first, last, more, low, high byte
}

var forms = [...]form{
	{0x00, 0x7f, 0, 0x00, 0x00},
	{0xc2, 0xdf, 1, 0x80, 0xbf},
	{0xe0, 0xe0, 2, 0xa0, 0xbf},
	{0xe1, 0xec, 2, 0x80, 0xbf},
	{0xed, 0xed, 2, 0x80, 0x9f},
	{0xee, 0xef, 2, 0x80, 0xbf},
	{0xf0, 0xf0, 3, 0x90, 0xbf},
	{0xf1, 0xf3, 3, 0x80, 0xbf},
	{0xf4, 0xf4, 3, 0x80, 0x8f},
}

// Utf8 tells the place of the first byte that is not UTF-8, or -1.
func Utf8(s string) int {
	for at := 0; at < len(s); {
		n := character(s[at:])
		if n == 0 {
			return at
		}
		at += n
	}
	return -1
}

// character tells how many bytes the character in front has, 0 if none stands there.
func character(s string) int {
	for i := range forms {
		if f := forms[i]; f.first <= s[0] && s[0] <= f.last {
			return f.length(s)
		}
	}
	return 0
}

// length tells how many bytes a character of the form has whose first byte stands in front, 0 if the others don't.
func (f form) length(s string) int {
	n := 1 + int(f.more)
	if len(s) < n {
		return 0
	}
	low, high := f.low, f.high
	for i := 1; i < n; i++ {
		if s[i] < low || s[i] > high {
			return 0
		}
		low, high = 0x80, 0xbf
	}
	return n
}
