package shell_test

import (
	"fmt"
	"strings"
	"testing"

	"sigil/api"
	"sigil/shell"
)

// secondByte is how one byte is written in a quoted word.
func secondByte(c int) string {
	switch {
	case c == 92:
		return `\\`
	case c == 34:
		return `\"`
	case c == 10:
		return `\n`
	case c == 9:
		return `\t`
	case c < 32 || c >= 127:
		return fmt.Sprintf(`\x%02x`, c)
	}
	return fmt.Sprintf("%c", c)
}

// quotes looks at a quoted word, and at the way back.
func quotes(t *testing.T, b string) {
	t.Helper()
	want := `"`
	for _, c := range []byte(b) {
		want += secondByte(int(c))
	}
	want += `"`
	if got := shell.Quote([]byte(b)); got != want {
		t.Errorf("P2002: Quote(%.80q) = %.80s, want %.80s", b, got, want)
	}
	if len(want) > api.MaxScript {
		return
	}
	if l, e := shell.Words(want); e != api.OK || len(l) != 1 || l[0] != b {
		t.Errorf("P2002: Words(%.80s) = %.80q, %v", want, l, e)
	}
}

func TestQuoteEveryByte(t *testing.T) { // P2002: every byte, alone and among others
	for c := range 256 {
		b := string([]byte{byte(c)})
		quotes(t, b)
		quotes(t, b+b)
		quotes(t, "a"+b+"z")
		quotes(t, b+"0a")
		quotes(t, "é"+b+`\`)
	}
	all := ""
	for c := range 256 {
		all += string([]byte{byte(c)})
	}
	quotes(t, all)
	quotes(t, all+all)
}

func TestQuoteWords(t *testing.T) { // P2002: nothing, what has a meaning in a line, letters
	for _, b := range []string{"", " ", "a b#", "#", `\n`, `\x41`, `"`, `\"`, "é", "\u2028", "~", "\x7f", "\x80", "\x1f", "'", "a\nb\tc\\d\"e", "\r\x00\x0b"} {
		quotes(t, b)
	}
	for b, want := range map[string]string{
		"": `""`, "a b#": `"a b#"`, "\\\"\n\t": `"\\\"\n\t"`, "\x00\x1f\x7f\x80\xff~": `"\x00\x1f\x7f\x80\xff~"`, "é": `"\xc3\xa9"`, "\r": `"\x0d"`, "\xab\xcd\xef": `"\xab\xcd\xef"`,
	} {
		if got := shell.Quote([]byte(b)); got != want {
			t.Errorf("P2002: Quote(%q) = %s, want %s", b, got, want)
		}
	}
	if got := shell.Quote(nil); got != `""` {
		t.Errorf("P2002: Quote(nil) = %s", got)
	}
}

func TestQuoteLengths(t *testing.T) { // P2002: what Words takes back, and what is too long for it
	for _, c := range []struct {
		b string
		e api.Errno
	}{
		{repeated("x", api.MaxScript-2), api.OK}, {repeated("x", api.MaxScript-1), api.ErrLong}, {repeated("\x00", api.MaxScript/4-1), api.OK}, {repeated("\x00", api.MaxScript/4), api.ErrLong}, {repeated(`"`, api.MaxScript/2-1), api.OK}, {repeated(`\`, api.MaxScript/2), api.ErrLong},
	} {
		q := shell.Quote([]byte(c.b))
		l, e := shell.Words(q)
		if e != c.e || e == api.OK && (len(l) != 1 || l[0] != c.b) {
			t.Errorf("P2002: Words of the quoted word of %d bytes, which has %d: %v, want %v", len(c.b), len(q), e, c.e)
		}
	}
	large := strings.Repeat("a\x00", 1<<20)
	if got := shell.Quote([]byte(large)); got != `"`+strings.Repeat(`a\x00`, 1<<20)+`"` {
		t.Error("P2002: Quote of many bytes")
	}
}

func TestQuoteMade(t *testing.T) { // P2002: rows of bytes, and each as one word among others
	for seed := range int64(4000) {
		m := newMaker(seed)
		b := make([]byte, m.n(40))
		for i := range b {
			b[i] = byte(m.n(256))
			if m.n(3) == 0 {
				b[i] = pick(m, byte('"'), '\\', 'n', 'x', '#', ' ', '\t', '\n')
			}
		}
		quotes(t, string(b))
		q := shell.Quote(b)
		wordsAre(t, "a "+q+"\t"+q+" #"+q, []string{"a", string(b), string(b)}, api.OK)
	}
}
