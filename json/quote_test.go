package json_test

import (
	stdjson "encoding/json"
	"math/rand"
	"strings"
	"testing"

	"sigil/api"
	"sigil/json"
)

// quotes looks whether a text is quoted, as it should be and so that it means itself.
func quotes(t *testing.T, s, want string) {
	t.Helper()
	q, e := json.Quote(s)
	if e != api.OK || q != want {
		t.Errorf("P1204: Quote(%s) = %s, %v, want %s", some(s), some(q), e, some(want))
		return
	}
	var back string
	if err := stdjson.Unmarshal([]byte(q), &back); err != nil || back != s {
		t.Errorf("P1204: %s means %s, %v, want %s", some(q), some(back), err, some(s))
	}
	if v, bad := json.New(smallSchema()).Parse("p.M", `{"b":`+q+`}`); len(s) > 0 && len(s) < 1<<19 && (bad != (api.Fault{}) || !same(v, one(2, text(s)))) {
		t.Errorf("P1201: %s is read as %s, %+v", some(q), short(v), bad)
	}
	compacts(t, q, q)
}

func TestQuote(t *testing.T) { // P1204: the bytes that are escaped and their neighbours, each alone and among others
	escapes := map[int]string{34: `\"`, 92: `\\`, 8: `\b`, 12: `\f`, 10: `\n`, 13: `\r`, 9: `\t`,
		0: `\u0000`, 1: `\u0001`, 2: `\u0002`, 3: `\u0003`, 4: `\u0004`, 5: `\u0005`, 6: `\u0006`, 7: `\u0007`, 11: `\u000b`, 14: `\u000e`, 15: `\u000f`, 16: `\u0010`, 17: `\u0011`, 18: `\u0012`, 19: `\u0013`, 20: `\u0014`, 21: `\u0015`, 22: `\u0016`, 23: `\u0017`, 24: `\u0018`, 25: `\u0019`, 26: `\u001a`, 27: `\u001b`, 28: `\u001c`, 29: `\u001d`, 30: `\u001e`, 31: `\u001f`}
	all, whole := "", ""
	for c := range 128 {
		in := string(rune(c))
		want, ok := escapes[c]
		if !ok {
			want = in
		}
		quotes(t, in, `"`+want+`"`)
		quotes(t, in+in, `"`+want+want+`"`)
		quotes(t, "a"+in, `"a`+want+`"`)
		quotes(t, in+"é", `"`+want+`é"`)
		all, whole = all+in, whole+want
	}
	quotes(t, all, `"`+whole+`"`)
	quotes(t, "", `""`)
	for _, s := range []string{"/", "\x7f", "\u0080", "é", "\u2028\u2029", "\ud7ff", "\ue000", "\ufeff", "\ufffd", "\uffff", "\U0001f600", "\U0010ffff", "<>&'", "u0041"} {
		quotes(t, s, `"`+s+`"`)
	}
	quotes(t, `\u0041`, `"\\u0041"`)
}

func TestQuoteMade(t *testing.T) { // P1204: against a second writing
	r := rand.New(rand.NewSource(1))
	parts := []string{"a", "\"", "\\", "/", "\x00", "\x07", "\b", "\t", "\n", "\v", "\f", "\r", "\x0e", "\x1f", " ", "!", "#", "[", "]", "\x7f", "é", "\U0010ffff"}
	for range 3000 {
		s := ""
		for range r.Intn(12) {
			s += parts[r.Intn(len(parts))]
		}
		quotes(t, s, secondQuote(s))
	}
}

// quoteRefuses looks whether a text is not quoted.
func quoteRefuses(t *testing.T, s string, want api.Errno) {
	t.Helper()
	if q, e := json.Quote(s); e != want || q != "" {
		t.Errorf("P1204: Quote(%s) = %s, %v, want %v", some(s), some(q), e, want)
	}
}

func TestQuoteRefuses(t *testing.T) { // P1204: texts that are not UTF-8, texts of MaxJson bytes and of one more
	for _, bad := range []string{"\xff", "\x80", "\xc3", "\xc0\x80", "\xe2\x82", "\xed\xa0\x80", "\xf4\x90\x80\x80", "\xf0\x9f\x98"} {
		for _, s := range []string{bad, "a" + bad, bad + "a", "é" + bad + "\n", "\"\\\x00" + bad} {
			quoteRefuses(t, s, api.ErrJsonText)
		}
	}
	long := strings.Repeat("x", api.MaxJson)
	if q, e := json.Quote(long); e != api.OK || q != `"`+long+`"` {
		t.Errorf("P1204: Quote of MaxJson bytes: %d bytes, %v", len(q), e)
	}
	quoteRefuses(t, long+"x", api.ErrLong)
	quoteRefuses(t, long+"\xff", api.ErrLong)
	quoteRefuses(t, "\xff"+long, api.ErrLong)
	quoteRefuses(t, long[:api.MaxJson-1]+"\xff", api.ErrJsonText)
	lines := strings.Repeat("\n", api.MaxJson) // what comes out may be longer
	if q, e := json.Quote(lines); e != api.OK || q != `"`+strings.Repeat(`\n`, api.MaxJson)+`"` {
		t.Errorf("P1204: Quote of MaxJson line ends: %d bytes, %v", len(q), e)
	}
}
