package scan_test

import (
	"fmt"
	"math/big"
	"math/rand"
	"regexp"
	"strings"
	"testing"
	"unicode/utf8"
	"unsafe"

	"sigil/api"
)

// A plain second reading of the chapter's words, by regular expressions over texts that are UTF-8.
var (
	gapForm    = regexp.MustCompile(`^(?:[\t-\r ]|//[^\n]*|/\*(?s:.*?)\*/)*`)
	wordForm   = regexp.MustCompile(`^[A-Za-z_][A-Za-z_0-9]*`)
	rowForm    = regexp.MustCompile(`^[A-Za-z_0-9]+`)
	numberForm = regexp.MustCompile(`^(?:0|[1-9][0-9]*|0[0-7]+|0[xX][0-9a-fA-F]+)$`)
	singleForm = regexp.MustCompile(`^'(?:[^\x00\n\\']|\\[abfnrtv\\'"]|\\[xX][0-9a-fA-F]{1,2}|\\[0-7]{1,3})*'`)
	doubleForm = regexp.MustCompile(`^"(?:[^\x00\n\\"]|\\[abfnrtv\\'"]|\\[xX][0-9a-fA-F]{1,2}|\\[0-7]{1,3})*"`)
	signForm   = regexp.MustCompile(`^[][{}()<>;,=.\-]`)
	pieceForm  = regexp.MustCompile(`(?s)\\[xX][0-9a-fA-F]{1,2}|\\[0-7]{1,3}|\\.|.`)
)

var greatest = big.NewInt(1<<63 - 1)

// modelNumber is Number, of a text that is not too long.
func modelNumber(s string) (int, api.Errno) {
	if !numberForm.MatchString(s) {
		return 0, api.ErrDigits
	}
	// The library tells an octal number by its first 0, as the chapter does.
	n, ok := new(big.Int).SetString(s, 0)
	if !ok || n.Cmp(greatest) > 0 {
		return 0, api.ErrDigits
	}
	return int(n.Int64()), api.OK
}

// modelString reads the string in front: what it stands for, and its own bytes, none if there is none.
func modelString(s string) (worth, lit string) {
	lit = singleForm.FindString(s) + doubleForm.FindString(s)
	if lit == "" {
		return "", ""
	}
	var b strings.Builder
	for _, p := range pieceForm.FindAllString(lit[1:len(lit)-1], -1) {
		var n int
		switch {
		case p[0] != '\\':
			b.WriteString(p)
			continue
		case p[1] == 'x' || p[1] == 'X':
			fmt.Sscanf(p[2:], "%x", &n)
		case p[1] >= '0' && p[1] <= '7':
			fmt.Sscanf(p[1:], "%o", &n)
		default:
			n = int(map[byte]byte{'a': 7, 'b': 8, 'f': 12, 'n': 10, 'r': 13, 't': 9, 'v': 11, '\\': '\\', '\'': '\'', '"': '"'}[p[1]])
		}
		if n > 255 {
			return "", ""
		}
		b.WriteByte(byte(n))
	}
	return b.String(), lit
}

// modelUnquote is Unquote, of a text that is not too long.
func modelUnquote(lit string) (string, api.Errno) {
	if !utf8.ValidString(lit) {
		return "", api.ErrCoding
	}
	s, l := modelString(lit)
	if l == "" || l != lit {
		return "", api.ErrString
	}
	return s, api.OK
}

// modelQuote is Quote.
func modelQuote(s string) string {
	var b strings.Builder
	for i := 0; i < len(s); {
		r, n := utf8.DecodeRuneInString(s[i:])
		named := map[byte]string{'\\': `\\`, '"': `\"`, 10: `\n`, 13: `\r`, 9: `\t`}[s[i]]
		switch {
		case named != "":
			b.WriteString(named)
		case s[i] < 32 || s[i] == 127 || r == utf8.RuneError && n == 1:
			fmt.Fprintf(&b, `\%03o`, s[i])
		default:
			b.WriteString(s[i : i+n])
		}
		i += n
	}
	return `"` + b.String() + `"`
}

// modelTokens is Tokens, of a text that is not too long.
func modelTokens(text string) ([]api.Token, int, api.Errno) {
	for i, r := range text {
		if r == utf8.RuneError && !strings.HasPrefix(text[i:], "\uFFFD") {
			return nil, i, api.ErrCoding
		}
	}
	var l []api.Token
	at := 0
	for {
		at += len(gapForm.FindString(text[at:]))
		rest := text[at:]
		switch {
		case rest == "":
			return append(l, api.Token{Kind: 5, At: at}), 0, api.OK
		case strings.HasPrefix(rest, "/*"):
			return nil, at, api.ErrComment
		case len(l) == 16383:
			return nil, at, api.ErrTokens
		}
		kind, tok, e := modelToken(rest)
		if e != api.OK {
			return nil, at, e
		}
		l = append(l, api.Token{Kind: kind, At: at, Text: tok})
		at += len(tok)
	}
}

// modelToken tells the token in front.
func modelToken(s string) (int, string, api.Errno) {
	if w := wordForm.FindString(s); w != "" {
		return 1, w, api.OK
	}
	if r := rowForm.FindString(s); r != "" {
		_, e := modelNumber(r)
		return 2, r, e
	}
	if strings.ContainsAny(s[:1], `'"`) {
		_, lit := modelString(s)
		if lit == "" {
			return 0, "", api.ErrString
		}
		return 3, lit, api.OK
	}
	if g := signForm.FindString(s); g != "" {
		return 4, g, api.OK
	}
	return 0, "", api.ErrChar
}

// rows goes through all rows of at most n of the pieces.
func rows(pieces []string, n int, f func(string)) {
	var from func(s string, left int)
	from = func(s string, left int) {
		f(s)
		if left == 0 {
			return
		}
		for _, p := range pieces {
			from(s+p, left-1)
		}
	}
	from("", n)
}

// made is a row of n of the pieces, with a gap behind each.
func made(r *rand.Rand, pieces []string, n int, gap string) string {
	var b strings.Builder
	for range n {
		b.WriteString(pieces[r.Intn(len(pieces))] + gap)
	}
	return b.String()
}

// held is a text over bytes that can be changed behind the program's back, and these bytes.
func held(s string) (string, []byte) {
	b := []byte(s + "!")
	return unsafe.String(&b[0], len(s)), b
}

// wreck changes all bytes.
func wreck(b []byte) {
	for i := range b {
		b[i] ^= 0x55
	}
}

// ended runs f and tells a panic in it.
func ended(t *testing.T, what string, f func()) {
	t.Helper()
	defer func() {
		if p := recover(); p != nil {
			t.Errorf("P1: %s panics: %v", what, p)
		}
	}()
	f()
}
