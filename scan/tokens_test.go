package scan_test

import (
	"fmt"
	"math/rand"
	"slices"
	"strings"
	"testing"

	"sigil/api"
	"sigil/scan"
)

// The face, as the chapter has it.
var (
	_ func(string) ([]api.Token, int, api.Errno) = scan.Tokens
	_ func(string) (int, api.Errno)              = scan.Number
	_ func(string) (string, api.Errno)           = scan.Unquote
	_ func(string) string                        = scan.Quote
	_ func(string) bool                          = scan.Ident
	_ func(string, int) (int, int, api.Errno)    = scan.Line
)

// checkTokens holds Tokens of a text against a list.
func checkTokens(t *testing.T, text string, want ...api.Token) {
	t.Helper()
	l, at, e := scan.Tokens(text)
	if !slices.Equal(l, want) || at != 0 || e != api.OK {
		t.Errorf("P401: Tokens(%.60q) = %.200s, %d, %v, want %.200s", text, fmt.Sprint(l), at, e, fmt.Sprint(want))
	}
}

// checkFault holds Tokens of a text against a fault and its place.
func checkFault(t *testing.T, text string, at int, e api.Errno) {
	t.Helper()
	if l, gotAt, got := scan.Tokens(text); len(l) != 0 || gotAt != at || got != e {
		t.Errorf("P401: Tokens(%.60q) (%d bytes) = %d tokens, %d, %v, want none, %d, %v", text, len(text), len(l), gotAt, got, at, e)
	}
}

// checkBoth holds Tokens of a text against the second reading, and what P402 says of it.
func checkBoth(t *testing.T, text string) {
	t.Helper()
	l, at, e := scan.Tokens(text)
	want, wantAt, wantE := modelTokens(text)
	if !slices.Equal(l, want) || at != wantAt || e != wantE {
		t.Fatalf("P401: Tokens(%q) = %v, %d, %v, want %v, %d, %v", text, l, at, e, want, wantAt, wantE)
	}
	if e == api.OK {
		checkPlaces(t, text, l)
		checkAgain(t, l)
	}
}

// checkPlaces: P402's first half.
func checkPlaces(t *testing.T, text string, l []api.Token) {
	t.Helper()
	end := 0
	for i, tok := range l {
		if tok.At < end || i > 0 && tok.At <= l[i-1].At {
			t.Fatalf("P402: Tokens(%q): the place of token %d does not rise: %v", text, i, l)
		}
		if !strings.HasPrefix(text[tok.At:], tok.Text) {
			t.Fatalf("P402: Tokens(%q): token %d is not what stands at %d: %q", text, i, tok.At, tok.Text)
		}
		if gap := text[end:tok.At]; gapForm.FindString(gap) != gap {
			t.Fatalf("P402: Tokens(%q): %q stands between tokens", text, gap)
		}
		end = tok.At + len(tok.Text)
	}
	if end != len(text) || l[len(l)-1].Kind != api.TokEnd {
		t.Fatalf("P402: Tokens(%q) does not end at the text's end: %v", text, l)
	}
}

// checkAgain: P402's second half.
func checkAgain(t *testing.T, l []api.Token) {
	t.Helper()
	var b strings.Builder
	for _, tok := range l {
		b.WriteString(tok.Text + " ")
	}
	if b.Len() > api.MaxText {
		return
	}
	again, at, e := scan.Tokens(b.String())
	if at != 0 || e != api.OK || !slices.EqualFunc(l, again, func(x, y api.Token) bool { return x.Kind == y.Kind && x.Text == y.Text }) {
		t.Fatalf("P402: Tokens(%.200q) = %.200s, %d, %v, want the texts of %.200s", b.String(), fmt.Sprint(again), at, e, fmt.Sprint(l))
	}
}

func TestTokensExamples(t *testing.T) { // P401
	checkTokens(t, "a=0x1F; // c\n\"\\x41\"", api.Token{Kind: 1, Text: "a"}, api.Token{Kind: 4, At: 1, Text: "="}, api.Token{Kind: 2, At: 2, Text: "0x1F"},
		api.Token{Kind: 4, At: 6, Text: ";"}, api.Token{Kind: 3, At: 13, Text: "\"\\x41\""}, api.Token{Kind: 5, At: 19})
	checkTokens(t, "", api.Token{Kind: 5})
	checkTokens(t, "/* */ ", api.Token{Kind: 5, At: 6})
	checkTokens(t, "1.5", api.Token{Kind: 2, Text: "1"}, api.Token{Kind: 4, At: 1, Text: "."}, api.Token{Kind: 2, At: 2, Text: "5"}, api.Token{Kind: 5, At: 3})
	checkFault(t, "1a", 0, api.ErrDigits)
	checkFault(t, "09", 0, api.ErrDigits)
	checkFault(t, "x 9223372036854775808", 2, api.ErrDigits)
	checkFault(t, "0x", 0, api.ErrDigits)
	checkFault(t, "a # b", 2, api.ErrChar)
	checkFault(t, "a/b", 1, api.ErrChar)
	checkFault(t, "/* x", 0, api.ErrComment)
	checkFault(t, "'a\nb'", 0, api.ErrString)
	checkFault(t, "\"\\q\"", 0, api.ErrString)
	checkFault(t, "\"\\400\"", 0, api.ErrString)
}

func TestTokensSchema(t *testing.T) { // P401, P402: a text as they come
	text := "syntax = \"proto3\"; /* the\n * one */ package p.q;\r\n\tmessage M_1 { // fields\n  map<string, .p.M> d = 0x4; reserved -1 to max, '\\'x\"';}\n"
	want := "syntax = \"proto3\" ; package p . q ; message M_1 { map < string , . p . M > d = 0x4 ; reserved - 1 to max , '\\'x\"' ; } "
	kinds := []int{1, 4, 3, 4, 1, 1, 4, 1, 4, 1, 1, 4, 1, 4, 1, 4, 4, 1, 4, 1, 4, 1, 4, 2, 4, 1, 4, 2, 1, 1, 4, 3, 4, 4, 5}
	l, at, e := scan.Tokens(text)
	if at != 0 || e != api.OK || len(l) != len(kinds) {
		t.Fatalf("P401: %d tokens, %d, %v: %v", len(l), at, e, l)
	}
	got := ""
	for i, tok := range l {
		if tok.Kind != kinds[i] {
			t.Errorf("P401: token %d is of kind %d: %v", i, tok.Kind, tok)
		}
		got += tok.Text + " "
	}
	if got != want+" " {
		t.Errorf("P401: %q, want %q", got, want)
	}
	checkBoth(t, text)
}

func TestTokensLength(t *testing.T) { // P401: MaxText bytes, and one more
	checkTokens(t, strings.Repeat(" ", api.MaxText), api.Token{Kind: 5, At: api.MaxText})
	name := strings.Repeat("n", api.MaxText)
	checkTokens(t, name, api.Token{Kind: 1, Text: name}, api.Token{Kind: 5, At: api.MaxText})
	lit := "'" + strings.Repeat("n", api.MaxText-2) + "'"
	checkTokens(t, lit, api.Token{Kind: 3, Text: lit}, api.Token{Kind: 5, At: api.MaxText})
	zeros := strings.Repeat("0", api.MaxText)
	checkTokens(t, zeros, api.Token{Kind: 2, Text: zeros}, api.Token{Kind: 5, At: api.MaxText})
	checkFault(t, strings.Repeat(" ", api.MaxText-1)+"#", api.MaxText-1, api.ErrChar)
	for _, text := range []string{" ", ";", "#", "\xff", "/*", "'", "1a", "\x00"} {
		n := api.MaxText/len(text) + 1
		checkFault(t, strings.Repeat(text, n)[:api.MaxText+1], 0, api.ErrLong) // ahead of all that is in it
		checkFault(t, strings.Repeat(text, 4*n), 0, api.ErrLong)
	}
}

func TestTokensCoding(t *testing.T) { // P401: what is not UTF-8, with the place, ahead of every other fault
	for _, bad := range []string{"\xff", "\x80", "\xc0\x80", "\xc1\xbf", "\xc3", "\xe0\x9f\xbf", "\xed\xa0\x80", "\xe2\x82", "\xf0\x8f\xbf\xbf", "\xf4\x90\x80\x80", "\xf5", "\xf0\x9f\x98"} {
		for _, ahead := range []string{"", "a ", "# ", "// ", "/* ", "'", "1a ", "é", "'é\U0001F600' ", strings.Repeat(";", api.MaxTokens), strings.Repeat(" ", api.MaxText-4)} {
			checkFault(t, ahead+bad, len(ahead), api.ErrCoding)
			if len(ahead) < 1000 {
				checkFault(t, ahead+bad+" b\xff", len(ahead), api.ErrCoding)
			}
		}
	}
	// Characters of all lengths, in comments and strings.
	checkTokens(t, "// é€\U0001F600\n'é€\U0001F600'/*é*/", api.Token{Kind: 3, At: 13, Text: "'é€\U0001F600'"}, api.Token{Kind: 5, At: 30})
}

func TestTokensFirstBytes(t *testing.T) { // P401: each byte as the first of a token
	class := map[int]string{
		0: "\t\n\v\f\r ",
		1: "ABCDEFGHIJKLMNOPQRSTUVWXYZabcdefghijklmnopqrstuvwxyz_",
		2: "0123456789",
		4: "{}[]()<>;,=.-",
	}
	for c := range 256 {
		text := "a " + string([]byte{byte(c)}) + " b"
		kind := -1
		for k, s := range class {
			if strings.IndexByte(s, byte(c)) >= 0 {
				kind = k
			}
		}
		switch {
		case kind == 0:
			checkTokens(t, text, api.Token{Kind: 1, Text: "a"}, api.Token{Kind: 1, At: 4, Text: "b"}, api.Token{Kind: 5, At: 5})
		case kind > 0:
			checkTokens(t, text, api.Token{Kind: 1, Text: "a"}, api.Token{Kind: kind, At: 2, Text: text[2:3]}, api.Token{Kind: 1, At: 4, Text: "b"}, api.Token{Kind: 5, At: 5})
		case c == '\'' || c == '"':
			checkFault(t, text, 2, api.ErrString)
			checkTokens(t, text+text[2:3], api.Token{Kind: 1, Text: "a"}, api.Token{Kind: 3, At: 2, Text: text[2:] + text[2:3]}, api.Token{Kind: 5, At: 6})
		case c >= 128:
			checkFault(t, text, 2, api.ErrCoding)
		default:
			checkFault(t, text, 2, api.ErrChar)
		}
	}
	for _, r := range []rune{0x80, 0xa0, 'é', 0x7ff, 0x800, '€', 0x2028, 0xfeff, 0xfffd, 0xffff, 0x10000, 0x10ffff} {
		checkFault(t, "a "+string(r), 2, api.ErrChar)
	}
}

func TestTokensRows(t *testing.T) { // P401: each pair of bytes, so what a token ends at
	for a := range 128 {
		for b := range 128 {
			checkBoth(t, string([]byte{byte(a), byte(b)}))
			checkBoth(t, "x"+string([]byte{byte(a), byte(b)})+"9")
		}
	}
}

func TestTokensComments(t *testing.T) { // P401: both kinds, at the end, without an end
	x := func(at int) api.Token { return api.Token{Kind: 1, At: at, Text: "x"} }
	end := func(at int) api.Token { return api.Token{Kind: 5, At: at} }
	for _, c := range []struct {
		text string
		want []api.Token
	}{
		{"//", []api.Token{end(2)}},
		{"///", []api.Token{end(3)}},
		{"//\n", []api.Token{end(3)}},
		{"//\nx", []api.Token{x(3), end(4)}},
		{"//\r x", []api.Token{end(5)}}, // a byte 13 does not end it
		{"//\r\nx", []api.Token{x(4), end(5)}},
		{"// /*\nx", []api.Token{x(6), end(7)}},
		{"//*\nx", []api.Token{x(4), end(5)}},
		{"// \x00 # ' \\\nx", []api.Token{x(11), end(12)}},
		{"x//", []api.Token{x(0), end(3)}},
		{"/**/", []api.Token{end(4)}},
		{"/***/x", []api.Token{x(5), end(6)}},
		{"/****/x", []api.Token{x(6), end(7)}},
		{"/*/*/x", []api.Token{x(5), end(6)}},
		{"/*//*/x", []api.Token{x(6), end(7)}},
		{"/*/**/x", []api.Token{x(6), end(7)}},
		{"/* // */x", []api.Token{x(8), end(9)}},
		{"/*\n\n*/x", []api.Token{x(6), end(7)}},
		{"/* \x00 # ' \\ */x", []api.Token{x(13), end(14)}},
		{"x/**/x", []api.Token{x(0), x(5), end(6)}},
		{"/**/ /**//**/\t//", []api.Token{end(16)}},
		{"/**///\n/**/x", []api.Token{x(11), end(12)}},
	} {
		checkTokens(t, c.text, c.want...)
	}
	checkTokens(t, "'//' '/*'", api.Token{Kind: 3, Text: "'//'"}, api.Token{Kind: 3, At: 5, Text: "'/*'"}, end(9))
	for _, c := range []struct {
		text string
		at   int
		e    api.Errno
	}{
		{"/*", 0, api.ErrComment}, {"/*/", 0, api.ErrComment}, {"/* *", 0, api.ErrComment}, {"/* * /", 0, api.ErrComment}, {"x /*", 2, api.ErrComment},
		{"/**/ /*\n#", 5, api.ErrComment}, {"/* \n// */ /*/", 10, api.ErrComment}, {"//\n /*", 4, api.ErrComment}, {"/* ' #", 0, api.ErrComment},
		{"/", 0, api.ErrChar}, {"/ /", 0, api.ErrChar}, {"x/", 1, api.ErrChar}, {"/x/", 0, api.ErrChar}, {"/\n/", 0, api.ErrChar}, {"/**//", 4, api.ErrChar},
		{"*/", 0, api.ErrChar}, {"/**/*/", 4, api.ErrChar}, {"/**/ x */", 7, api.ErrChar}, {"/\\", 0, api.ErrChar},
	} {
		checkFault(t, c.text, c.at, c.e)
	}
}

func TestTokensMany(t *testing.T) { // P401: MaxTokens - 1 tokens and what may be behind them
	for _, tok := range []string{";", "a ", "0 ", "''"} {
		full := strings.Repeat(tok, api.MaxTokens-1)
		for _, ok := range []string{"", " ", "\n\t", "//", " // end", "//\n ", "/**/", "/* ; # */ ", "/*/ */"} {
			text := full + ok
			l, at, e := scan.Tokens(text)
			if len(l) != api.MaxTokens || at != 0 || e != api.OK || l[len(l)-1] != (api.Token{Kind: 5, At: len(text)}) {
				t.Fatalf("P401: %d times %q, then %q: %d tokens, %d, %v", api.MaxTokens-1, tok, ok, len(l), at, e)
			}
			checkPlaces(t, text, l)
			checkAgain(t, l)
		}
		// Every token, right or wrong, is one too many; a comment is none.
		for _, over := range []string{";", "a", "1", "'s'", "\"", "#", "1a", "0x", "'\\q'", "/", "/x", "é", "\x00", "/ *"} {
			checkFault(t, full+over, len(full), api.ErrTokens)
			checkFault(t, full+" "+over, len(full)+1, api.ErrTokens)
			checkFault(t, full+"//\n"+over+" /*", len(full)+3, api.ErrTokens)
			checkFault(t, full+"/**/"+over+";", len(full)+4, api.ErrTokens)
		}
		for _, bad := range []string{"/*", "/*/", "/* ;"} {
			checkFault(t, full+bad, len(full), api.ErrComment)
			checkFault(t, full+" //\n/**/"+bad, len(full)+8, api.ErrComment)
		}
		checkFault(t, full+tok+"/*", len(full), api.ErrTokens)
		checkFault(t, full+"; \xff", len(full)+2, api.ErrCoding)
	}
	// One less leaves room for one more, and for its faults.
	room := strings.Repeat(";", api.MaxTokens-2)
	checkFault(t, room+"#", len(room), api.ErrChar)
	checkFault(t, room+"1a", len(room), api.ErrDigits)
	checkFault(t, room+"'", len(room), api.ErrString)
	checkFault(t, room+"a#", len(room)+1, api.ErrTokens)
	if l, _, e := scan.Tokens(room + "a"); len(l) != api.MaxTokens || e != api.OK {
		t.Errorf("P401: %d tokens, %v", len(l), e)
	}
	checkFault(t, strings.Repeat(";", api.MaxText), api.MaxTokens-1, api.ErrTokens)
}

func TestTokensNames(t *testing.T) { // P401: the longest name, however long
	for _, n := range []int{1, 2, api.MaxName - 1, api.MaxName, api.MaxName + 1, 5000} {
		for _, name := range []string{strings.Repeat("a", n), strings.Repeat("_", n), "Z" + strings.Repeat("9", n)} {
			checkTokens(t, name, api.Token{Kind: 1, Text: name}, api.Token{Kind: 5, At: len(name)})
			checkTokens(t, name+".9", api.Token{Kind: 1, Text: name}, api.Token{Kind: 4, At: len(name), Text: "."}, api.Token{Kind: 2, At: len(name) + 1, Text: "9"}, api.Token{Kind: 5, At: len(name) + 2})
			checkTokens(t, name+"'"+name+"'", api.Token{Kind: 1, Text: name}, api.Token{Kind: 3, At: len(name), Text: "'" + name + "'"}, api.Token{Kind: 5, At: 2*len(name) + 2})
		}
	}
	checkFault(t, "aé", 1, api.ErrChar)
	checkFault(t, "a$", 1, api.ErrChar)
}

func TestTokensNumbers(t *testing.T) { // P401, P403: all that stands in a row is the number
	for _, s := range numbers() {
		_, want := modelNumber(s)
		for _, ahead := range []string{"", "a ", "=", "-", "''", "/**/"} {
			for _, behind := range []string{"", " ", ";", ".", "-", "''", "//", "\n"} {
				text := ahead + s + behind
				if want != api.OK {
					checkFault(t, text, len(ahead), want)
					continue
				}
				l, _, e := scan.Tokens(text)
				i := slices.IndexFunc(l, func(tok api.Token) bool { return tok.Kind == api.TokNumber })
				if e != api.OK || i < 0 || l[i] != (api.Token{Kind: 2, At: len(ahead), Text: s}) {
					t.Errorf("P401: Tokens(%.60q) = %.200s, %v", text, fmt.Sprint(l), e)
				}
			}
			checkFault(t, ahead+s+"g", len(ahead), api.ErrDigits)
			checkFault(t, ahead+s+"_", len(ahead), api.ErrDigits)
			checkFault(t, ahead+s+"_1 /*", len(ahead), api.ErrDigits)
		}
	}
}

func TestTokensStrings(t *testing.T) { // P401, P404: where a string ends, and where none begins
	rows([]string{"'", "\"", "\\", "x", "4", "n", "8"}, 6, func(s string) {
		for _, q := range []string{"'", "\""} {
			text := q + s
			want, lit := modelString(text)
			l, at, e := scan.Tokens(text)
			if lit == "" {
				if at != 0 || e != api.ErrString || len(l) != 0 {
					t.Fatalf("P401: Tokens(%q) = %v, %d, %v", text, l, at, e)
				}
			} else if e == api.OK && l[0] != (api.Token{Kind: 3, Text: lit}) {
				t.Fatalf("P401: Tokens(%q) = %v, want %q", text, l, lit)
			} else if e != api.OK && at < len(lit) {
				t.Fatalf("P401: Tokens(%q): %d, %v, want the string %q", text, at, e, lit)
			}
			if got, e := scan.Unquote(lit); lit != "" && (got != want || e != api.OK) {
				t.Fatalf("P404: Unquote(%q) = %q, %v, want %q", lit, got, e, want)
			}
		}
	})
}

func TestTokensFirstFault(t *testing.T) { // P401: of several faults the first from the left
	faults := []struct {
		text string
		e    api.Errno
	}{{"#", api.ErrChar}, {"/", api.ErrChar}, {"é", api.ErrChar}, {"1a", api.ErrDigits}, {"0x", api.ErrDigits}, {"'\n'", api.ErrString}, {"\"\\q\"", api.ErrString}, {"/* ", api.ErrComment}}
	for _, a := range faults {
		for _, b := range faults {
			checkFault(t, a.text+" "+b.text, 0, a.e)
			checkFault(t, "m { /**/ "+a.text+" "+b.text+" }", 9, a.e)
		}
		checkFault(t, a.text+"\xff", len(a.text), api.ErrCoding)
	}
}

func TestTokensSmallTexts(t *testing.T) { // P401, P402: all short rows of telling pieces
	t.Parallel()
	rows([]string{"a", "0", "8", "x", "'", "\"", "\\", "/", "*", "\n", " ", ".", "#", "é", "\x00", "\xff"}, 4, func(s string) { checkBoth(t, s) })
	rows([]string{"/", "*", "\n", "a"}, 8, func(s string) { checkBoth(t, s) })
}

func TestTokensMadeTexts(t *testing.T) { // P401, P402
	t.Parallel()
	pieces := []string{" ", "\n", "\t", "a", "b9", "_", "message", "0", "17", "0x1F", "017", "9223372036854775807", "{", "}", "[", "]", "(", ")", "<", ">", ";", ",", "=", ".", "-",
		"'a\\'b'", "\"\\x41\\101\"", "''", "\"é'\"", "// c\n", "/* c */", "/**/"}
	wrong := append(slices.Clone(pieces), "#", "/", "'", "\"", "\\", "/*", "é", "\x00", "09", "0x", "9223372036854775808", "\xc3", "*")
	r := rand.New(rand.NewSource(4))
	right := 0
	for i := range 40000 {
		l := pieces
		if i%4 == 0 {
			l = wrong
		}
		gap := ""
		if i%2 == 0 {
			gap = " "
		}
		text := made(r, l, r.Intn(40), gap)
		checkBoth(t, text)
		if _, _, e := scan.Tokens(text); e == api.OK {
			right++
		}
	}
	if right < 1000 {
		t.Errorf("too few right texts among the made ones: %d", right)
	}
}

func TestTokensOwnMemory(t *testing.T) { // P2, P3
	src := "message M { int32 a = 1; string b = 0x2; } // é\n'x' \"\\101\""
	text, b := held(src)
	first, _, e := scan.Tokens(text)
	want, _, _ := modelTokens(src)
	if e != api.OK || text != src {
		t.Fatalf("P2: %v, the text is now %q", e, text)
	}
	wreck(b)
	if !slices.Equal(first, want) {
		t.Errorf("P2: the tokens keep what was handed in: %v", first)
	}
	second, _, _ := scan.Tokens(src)
	room := second[:cap(second)]
	for i := range room {
		room[i] = api.Token{Kind: 77, At: 77, Text: "other"}
	}
	third, _, _ := scan.Tokens(src)
	if !slices.Equal(first, want) || !slices.Equal(third, want) {
		t.Errorf("P2: two answers share memory: %v, %v", first, third)
	}
	_ = append(third, api.Token{Kind: 78})
	for range 3 {
		if l, at, e := scan.Tokens(src); fmt.Sprint(l, at, e) != fmt.Sprint(want, 0, api.OK) {
			t.Errorf("P3: Tokens answers otherwise: %v, %d, %v", l, at, e)
		}
		checkFault(t, src+"#", len(src), api.ErrChar)
	}
}

func TestWholeBytes(t *testing.T) { // P1: no call panics, whatever bytes it gets
	r := rand.New(rand.NewSource(5))
	for range 20000 {
		b := make([]byte, r.Intn(24))
		for i := range b {
			b[i] = byte(r.Intn(256))
			if r.Intn(3) > 0 {
				b[i] = "'\"\\x07 /*\n"[r.Intn(10)]
			}
		}
		s := string(b)
		ended(t, fmt.Sprintf("a call with %q", s), func() {
			checkBoth(t, s)
			scan.Number(s)
			scan.Unquote(s)
			scan.Unquote(scan.Quote(s))
			scan.Ident(s)
			scan.Line(s, r.Intn(30)-3)
		})
	}
}
