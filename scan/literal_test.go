package scan_test

import (
	"fmt"
	"math/rand"
	"strings"
	"testing"
	"unicode/utf8"

	"sigil/api"
	"sigil/scan"
)

// checkUnquote holds Unquote against an answer.
func checkUnquote(t *testing.T, lit, want string, e api.Errno) {
	t.Helper()
	if got, gotE := scan.Unquote(lit); got != want || gotE != e {
		t.Errorf("P404: Unquote(%.40q) (%d bytes) = %.40q, %v, want %.40q, %v", lit, len(lit), got, gotE, want, e)
	}
}

// checkQuote holds Quote of a text against the second reading, and the way back.
func checkQuote(t *testing.T, s string) {
	t.Helper()
	q := scan.Quote(s)
	if want := modelQuote(s); q != want {
		t.Fatalf("P405: Quote(%.60q) = %.60s, want %.60s", s, q, want)
	}
	if len(q) > api.MaxText {
		return
	}
	if back, e := scan.Unquote(q); back != s || e != api.OK {
		t.Fatalf("P406: %.60q comes back as %.60q, %v", s, back, e)
	}
	if l, at, e := scan.Tokens(q); len(l) != 2 || at != 0 || e != api.OK || l[0] != (api.Token{Kind: 3, Text: q}) {
		t.Fatalf("P401, P405: Tokens(%.60q) = %.60s, %d, %v", q, fmt.Sprint(l), at, e)
	}
}

func TestUnquoteExamples(t *testing.T) { // P404
	checkUnquote(t, "'it\\'s'", "it's", 0)
	checkUnquote(t, "\"a\" ", "", api.ErrString)
	checkUnquote(t, "a", "", api.ErrString)
	checkUnquote(t, "\"\\xff\"", "\xff", 0)
	checkUnquote(t, "''", "", 0)
	checkUnquote(t, "\"\"", "", 0)
	checkUnquote(t, "'\"'", "\"", 0)
	checkUnquote(t, "\"'\"", "'", 0)
	checkUnquote(t, "'\\\"\\''", "\"'", 0)
	checkUnquote(t, "'é€\U0001F600'", "é€\U0001F600", 0)
	checkUnquote(t, "'\\xc3\\xa9'", "é", 0)
	checkUnquote(t, "'\\xc3\\351'", "\xc3\xe9", 0)
	checkUnquote(t, "'a\\n\\\\n\t//*#'", "a\n\\n\t//*#", 0)
	for _, lit := range []string{"", "'", "\"", "'a", "'a\"", "\"a'", "a'", "'a'b", "'a''b'", " 'a'", "'a' ", "'a'\n", "''''", "'''", "'\\'", "'\\", "\"\\\"", "'a\\'", "/**/''", "`a`", "''\x00"} {
		checkUnquote(t, lit, "", api.ErrString)
	}
}

func TestUnquoteEscapes(t *testing.T) { // P404: each byte behind a backslash, one, two and three digits
	named := map[int]string{'a': "\x07", 'b': "\x08", 'f': "\x0c", 'n': "\x0a", 'r': "\x0d", 't': "\x09", 'v': "\x0b", '\\': "\\", '\'': "'", '"': "\"",
		'0': "\x00", '1': "\x01", '2': "\x02", '3': "\x03", '4': "\x04", '5': "\x05", '6': "\x06", '7': "\x07"}
	for c := range 128 {
		for _, q := range []string{"'", "\""} {
			lit := q + "\\" + string(rune(c)) + q
			if want, ok := named[c]; ok {
				checkUnquote(t, lit, want, 0)
				checkUnquote(t, q+"z\\"+string(rune(c))+"z"+q, "z"+want+"z", 0)
			} else {
				checkUnquote(t, lit, "", api.ErrString)
				checkFault(t, "a "+lit, 2, api.ErrString)
			}
		}
	}
	checkUnquote(t, "'\\é'", "", api.ErrString)
	checkUnquote(t, "'\\\n'", "", api.ErrString)
	checkUnquote(t, "'\\\x00'", "", api.ErrString)
	for n := range 512 {
		for _, q := range []string{"'", "\""} {
			for _, form := range []string{"%03o", "%02o", "%o"} {
				digits := fmt.Sprintf(form, n)
				if n > 255 {
					checkUnquote(t, q+"\\"+digits+q, "", api.ErrString)
					continue
				}
				checkUnquote(t, q+"\\"+digits+q, string([]byte{byte(n)}), 0)
				checkUnquote(t, q+"\\"+digits+"8"+q, string([]byte{byte(n), '8'}), 0)
				checkUnquote(t, q+"\\"+digits+"a"+q, string([]byte{byte(n), 'a'}), 0)
				checkUnquote(t, q+"\\"+digits+"\\7"+q, string([]byte{byte(n), 7}), 0)
				if len(digits) == 3 {
					checkUnquote(t, q+"\\"+digits+"7"+q, string([]byte{byte(n), '7'}), 0)
				}
			}
		}
	}
	checkUnquote(t, "'\\377'", "\xff", 0)
	checkUnquote(t, "'\\400'", "", api.ErrString)
	checkUnquote(t, "'\\8'", "", api.ErrString)
	checkUnquote(t, "'\\08'", "\x008", 0)
}

func TestUnquoteHex(t *testing.T) { // P404: \x with no, one, two and three digits
	for _, x := range []string{"\\x", "\\X"} {
		for n := range 256 {
			for _, form := range []string{"%x", "%X", "%02x", "%02X"} {
				digits := fmt.Sprintf(form, n)
				b := string([]byte{byte(n)})
				checkUnquote(t, "'"+x+digits+"'", b, 0)
				checkUnquote(t, "\""+x+digits+"g\"", b+"g", 0)
				checkUnquote(t, "\""+x+digits+"\\n\"", b+"\n", 0)
				if len(digits) == 2 {
					checkUnquote(t, "'"+x+digits+"0'", b+"0", 0)
					checkUnquote(t, "'"+x+digits+"Ff'", b+"Ff", 0)
				}
			}
		}
		for _, bad := range []string{"", "g", "G", "x", "_", " ", "\\x41", "'", "é", ":", "/", "@", "`", "-1", "+1"} {
			checkUnquote(t, "'"+x+bad+"'", "", api.ErrString)
		}
		checkUnquote(t, "'"+x, "", api.ErrString)
		checkUnquote(t, "'"+x+"4", "", api.ErrString)
		checkUnquote(t, "'"+x+"41", "", api.ErrString)
	}
}

func TestUnquoteDigitsEnd(t *testing.T) { // P404: each byte behind an escape's digits
	for c := range 128 {
		for _, esc := range []string{"\\x4", "\\x41", "\\xf", "\\X", "\\4", "\\14", "\\141", "\\3"} {
			for _, behind := range []string{"", "1", "\\n"} {
				lit := "'" + esc + string(rune(c)) + behind + "'"
				want, e := modelUnquote(lit)
				checkUnquote(t, lit, want, e)
			}
		}
	}
}

func TestUnquoteBytes(t *testing.T) { // P404: each byte inside a string
	for c := range 128 {
		b := string(rune(c))
		for _, q := range []string{"'", "\""} {
			switch {
			case c == 0 || c == 10 || c == '\\' || b == q:
				checkUnquote(t, q+b+q, "", api.ErrString)
				checkUnquote(t, q+"z"+b+"z"+q, "", api.ErrString)
			default:
				checkUnquote(t, q+b+q, b, 0)
				checkUnquote(t, q+"z"+b+"z"+q, "z"+b+"z", 0)
			}
		}
	}
	for _, r := range []rune{0x80, 0xe9, 0x7ff, 0x800, 0xfffd, 0xffff, 0x10000, 0x10ffff} {
		checkUnquote(t, "'"+string(r)+"'", string(r), 0)
	}
}

func TestUnquoteCoding(t *testing.T) { // P404, P5: ErrCoding ahead of ErrString, ErrLong ahead of both
	for c := 128; c < 256; c++ {
		b := string([]byte{byte(c)})
		for _, lit := range []string{b, "'" + b, "'" + b + "'", "'\\q" + b, "''" + b, "'\n'" + b, b + "''", "'" + b + "\n"} {
			checkUnquote(t, lit, "", api.ErrCoding)
		}
	}
	checkUnquote(t, "'\xed\xa0\x80'", "", api.ErrCoding)
	checkUnquote(t, "'\xc0\x80'", "", api.ErrCoding)
	in := strings.Repeat("q", api.MaxText-2)
	checkUnquote(t, "'"+in+"'", in, 0)
	checkUnquote(t, "'"+in+"q", "", api.ErrString)
	checkUnquote(t, "'"+in+"\xff", "", api.ErrCoding)
	checkUnquote(t, "'q"+in+"'", "", api.ErrLong)
	checkUnquote(t, "'"+in+"' ", "", api.ErrLong)
	checkUnquote(t, strings.Repeat("\xff", api.MaxText+1), "", api.ErrLong)
	checkUnquote(t, strings.Repeat("\\", 4*api.MaxText), "", api.ErrLong)
	checkUnquote(t, "'"+strings.Repeat("\\n", api.MaxText/2-1)+"'", strings.Repeat("\n", api.MaxText/2-1), 0)
}

func TestUnquoteRows(t *testing.T) { // P404: all short rows of telling pieces
	t.Parallel()
	check := func(lit string) {
		got, e := scan.Unquote(lit)
		if want, wantE := modelUnquote(lit); got != want || e != wantE {
			t.Fatalf("P404: Unquote(%q) = %q, %v, want %q, %v", lit, got, e, want, wantE)
		}
	}
	rows([]string{"'", "\"", "\\", "x", "4", "0", "n", "8", "\n", "\x00", "é", "\xff"}, 4, check)
	rows([]string{"\\", "x", "4", "0", "3", "8", "F"}, 5, func(s string) { check("'" + s + "'") })
}

func TestQuoteExamples(t *testing.T) { // P405
	for s, want := range map[string]string{
		"":                         `""`,
		"a\"\x00\xc3\xa9\xff":      `"a\"\000é\377"`,
		"\n\r\t\\'\x7f\x1f":        `"\n\r\t\\'\177\037"`,
		"\a\b\v\f\x1b":             `"\007\010\013\014\033"`,
		" ~!":                      `" ~!"`,
		"\xed\xa0\x80":             `"\355\240\200"`,
		"é€\U0001F600":             `"é€😀"`,
		"\xc3":                     `"\303"`,
		"\xc3\xc3\xa9":             `"\303é"`,
		"\xe2\x82":                 `"\342\202"`,
		"\xe2\x82é":                `"\342\202é"`,
		"\xe2\x82\x41":             `"\342\202A"`,
		"\xf0\x9f\x98":             `"\360\237\230"`,
		"\xf0\x9f\x98\x80\x80":     `"😀\200"`,
		"\x80\xbf":                 `"\200\277"`,
		"\xc0\x80":                 `"\300\200"`,
		"\xf4\x90\x80\x80":         `"\364\220\200\200"`,
		"\u0080\u0085\u2028\ufeff": "\"\u0080\u0085\u2028\ufeff\"",
		"\ufffd":                   "\"\ufffd\"",
		"\x001":                    `"\0001"`,
		"\\n":                      `"\\n"`,
	} {
		if got := scan.Quote(s); got != want {
			t.Errorf("P405: Quote(%q) = %s, want %s", s, got, want)
		}
		checkQuote(t, s)
	}
}

func TestQuoteBytes(t *testing.T) { // P405, P406: each byte, each pair, rows of telling bytes
	t.Parallel()
	for a := range 256 {
		checkQuote(t, string([]byte{byte(a)}))
		for b := range 256 {
			checkQuote(t, string([]byte{byte(a), byte(b)}))
		}
	}
	rows([]string{"a", "\\", "\"", "'", "\n", "\x00", "\x7f", "\x80", "\xbf", "\xc3", "\xe2", "\xed", "\xf0", "\x9f", "é"}, 4, func(s string) { checkQuote(t, s) })
	rows([]string{"\x80", "\x8f", "\x90", "\xa0", "\xbf", "\xe0", "\xf0", "\xf4"}, 5, func(s string) { checkQuote(t, s) })
	for r := rune(0); r <= utf8.MaxRune; r += 61 {
		checkQuote(t, "x"+string(r)+"0")
	}
}

func TestQuoteLengths(t *testing.T) { // P405, P406: any s, also where the string is too long to be read
	t.Parallel()
	for _, unit := range []string{"a", "\n", "\x00", "\xff", "é", "\"", "\U0001F600"} {
		n := (api.MaxText - 2) / len(scan.Quote(unit)[1:len(scan.Quote(unit))-1])
		for _, k := range []int{n - 1, n, n + 1, 4 * n} {
			checkQuote(t, strings.Repeat(unit, k))
		}
	}
	room := strings.Repeat("a", api.MaxText-2)
	if back, e := scan.Unquote(scan.Quote(room)); back != room || e != api.OK {
		t.Errorf("P406: %d bytes, %v", len(back), e)
	}
	if back, e := scan.Unquote(scan.Quote(room + "a")); back != "" || e != api.ErrLong {
		t.Errorf("P404: %d bytes, %v", len(back), e)
	}
	// A long text takes no more than its share of time.
	long := strings.Repeat("é\xff\xe2\x82a", 1<<20)
	if q, want := scan.Quote(long), strings.Repeat(`é\377\342\202a`, 1<<20); q != `"`+want+`"` {
		t.Errorf("P405: Quote of %d bytes has %d bytes", len(long), len(q))
	}
}

func TestQuoteMade(t *testing.T) { // P405, P406
	t.Parallel()
	r := rand.New(rand.NewSource(7))
	for range 20000 {
		b := make([]byte, r.Intn(30))
		r.Read(b)
		checkQuote(t, string(b))
		checkQuote(t, made(r, []string{"a", "0", "\\", "\"", "'", "\n", "é", "€", "\U0001F600", "\xff", "\xe2", "\x82"}, r.Intn(20), ""))
	}
}

func TestLiteralsOwnMemory(t *testing.T) { // P2
	for _, s := range []string{"plain", "é", "", "a\nb", "\xff"} {
		text, b := held(s)
		q := scan.Quote(text)
		if text != s {
			t.Errorf("P2: Quote changes %q to %q", s, text)
		}
		wreck(b)
		if want := modelQuote(s); q != want {
			t.Errorf("P2: Quote(%q) keeps what was handed in: %q", s, q)
		}
		lit, b := held(modelQuote(s))
		back, e := scan.Unquote(lit)
		if lit != modelQuote(s) {
			t.Errorf("P2: Unquote changes %q to %q", modelQuote(s), lit)
		}
		wreck(b)
		if back != s || e != api.OK {
			t.Errorf("P2: Unquote(%q) keeps what was handed in: %q, %v", modelQuote(s), back, e)
		}
	}
}
