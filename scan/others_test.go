package scan_test

import (
	"fmt"
	"math"
	"math/rand"
	"strconv"
	"strings"
	"testing"

	"sigil/api"
	"sigil/scan"
)

// numbers are rows of letters and digits that begin with a digit, right and wrong ones.
func numbers() []string {
	l := []string{"0", "00", "000", "07", "017", "08", "09", "008", "0778", "1", "7", "8", "9", "10", "17", "1234567890", "0x", "0X", "0x0", "0X0", "0xg", "0x_", "0xx1", "00x1", "1x1", "0x1F", "0Xff", "0xABCDEFabcdef0123456789"[:18],
		"0b1", "0o7", "0B1", "0O7", "1e5", "1E5", "1f", "1_000", "0_7", "0x_1", "0x1_", "1l", "0u", "1a", "0a", "0f", "0g", "01a",
		"9223372036854775806", "9223372036854775807", "9223372036854775808", "9223372036854775809", "18446744073709551615", "18446744073709551616", "18446744073709551617", "92233720368547758070", "99999999999999999999",
		"0777777777777777777776", "0777777777777777777777", "01000000000000000000000", "01777777777777777777777", "02000000000000000000000", "04000000000000000000001",
		"0x7ffffffffffffffe", "0x7fffffffffffffff", "0X7FFFFFFFFFFFFFFF", "0x8000000000000000", "0xffffffffffffffff", "0x10000000000000000", "0x10000000000000001",
		"0" + strings.Repeat("0", 100) + "17", "0x" + strings.Repeat("0", 100) + "1f", "0" + strings.Repeat("0", 100) + "8", "1" + strings.Repeat("0", 100)}
	return l
}

func TestNumberExamples(t *testing.T) { // P403
	for _, c := range []struct {
		text string
		want int
		e    api.Errno
	}{
		{"017", 15, 0}, {"0", 0, 0}, {"00", 0, 0}, {"-1", 0, api.ErrDigits}, {"", 0, api.ErrDigits},
		{"7", 7, 0}, {"10", 10, 0}, {"0x1F", 31, 0}, {"0Xab", 171, 0}, {"0x00ff", 255, 0}, {"0000017", 15, 0},
		{"9223372036854775807", math.MaxInt64, 0}, {"9223372036854775808", 0, api.ErrDigits},
		{"0777777777777777777777", math.MaxInt64, 0}, {"01000000000000000000000", 0, api.ErrDigits},
		{"0x7FFFFFFFFFFFFFFF", math.MaxInt64, 0}, {"0x8000000000000000", 0, api.ErrDigits},
		{"08", 0, api.ErrDigits}, {"0x", 0, api.ErrDigits}, {"0X", 0, api.ErrDigits}, {"x1", 0, api.ErrDigits}, {"+1", 0, api.ErrDigits}, {"0x+1", 0, api.ErrDigits}, {"0x-1", 0, api.ErrDigits}, {"0-1", 0, api.ErrDigits},
		{" 1", 0, api.ErrDigits}, {"1 ", 0, api.ErrDigits}, {"1\n", 0, api.ErrDigits}, {"1/**/", 0, api.ErrDigits}, {"1.0", 0, api.ErrDigits}, {"1a", 0, api.ErrDigits}, {"a", 0, api.ErrDigits}, {"'1'", 0, api.ErrDigits},
		{"1_0", 0, api.ErrDigits}, {"0_0", 0, api.ErrDigits}, {"0x_1", 0, api.ErrDigits}, {"_1", 0, api.ErrDigits}, {"0b1", 0, api.ErrDigits}, {"0o1", 0, api.ErrDigits}, {"1e1", 0, api.ErrDigits},
		{"\xff", 0, api.ErrDigits}, {"1\xff", 0, api.ErrDigits}, {"1é", 0, api.ErrDigits}, {"١", 0, api.ErrDigits}, {"1\x00", 0, api.ErrDigits}, {"\x00", 0, api.ErrDigits},
	} {
		if n, e := scan.Number(c.text); n != c.want || e != c.e {
			t.Errorf("P403: Number(%q) = %d, %v, want %d, %v", c.text, n, e, c.want, c.e)
		}
	}
}

func TestNumberForms(t *testing.T) { // P403: each form, against the second reading
	check := func(s string) {
		t.Helper()
		n, e := scan.Number(s)
		if want, wantE := modelNumber(s); n != want || e != wantE {
			t.Fatalf("P403: Number(%.60q) = %d, %v, want %d, %v", s, n, e, want, wantE)
		}
	}
	for _, s := range numbers() {
		check(s)
	}
	rows([]string{"0", "1", "7", "8", "9", "x", "X", "a", "F", "g", "_", " ", "-"}, 4, check)
	for c := range 256 {
		b := string([]byte{byte(c)})
		for _, s := range []string{b, b + "1", "1" + b, "0" + b, "01" + b, "0x" + b, "0X" + b, "0x1" + b, "1" + b + "1", "0x1" + b + "1", "01" + b + "1", "0" + b + "1"} {
			check(s)
		}
	}
	r := rand.New(rand.NewSource(6))
	for range 20000 {
		v := r.Uint64() >> r.Intn(64)
		check(strconv.FormatUint(v, 10))
		check("0" + strconv.FormatUint(v, 8))
		check("0x" + strconv.FormatUint(v, 16))
		check("0X" + strings.ToUpper(strconv.FormatUint(v, 16)))
		check(strconv.FormatUint(v, 10) + strconv.Itoa(r.Intn(10)))
	}
	for v := uint64(1)<<63 - 20; v != 1<<63+20; v++ {
		check(strconv.FormatUint(v, 10))
		check("0" + strconv.FormatUint(v, 8))
		check("0x" + strconv.FormatUint(v, 16))
	}
}

func TestNumberLength(t *testing.T) { // P403: MaxText bytes, and one more
	for _, c := range []struct {
		text string
		want int
		e    api.Errno
	}{
		{strings.Repeat("0", api.MaxText), 0, 0},
		{strings.Repeat("0", api.MaxText-2) + "17", 15, 0},
		{"0x" + strings.Repeat("0", api.MaxText-4) + "1f", 31, 0},
		{strings.Repeat("9", api.MaxText), 0, api.ErrDigits},
		{strings.Repeat("a", api.MaxText), 0, api.ErrDigits},
		{strings.Repeat("0", api.MaxText+1), 0, api.ErrLong},
		{strings.Repeat("9", api.MaxText+1), 0, api.ErrLong},
		{strings.Repeat("a", api.MaxText+1), 0, api.ErrLong},
		{strings.Repeat("\xff", 4*api.MaxText), 0, api.ErrLong},
	} {
		if n, e := scan.Number(c.text); n != c.want || e != c.e {
			t.Errorf("P403: Number of %d bytes (%.5q...) = %d, %v, want %d, %v", len(c.text), c.text, n, e, c.want, c.e)
		}
	}
}

func TestIdent(t *testing.T) { // P407
	long := strings.Repeat("x", api.MaxName)
	for s, want := range map[string]bool{
		"a": true, "_": true, "Z": true, "a9": true, "_9": true, "A9_z": true, "message": true, long: true, "_" + long[1:]: true,
		"": false, "9": false, "9a": false, "a-b": false, "a.b": false, " a": false, "a ": false, "a\n": false, "é": false, "aé": false, "a\xff": false, "\xff": false, "a\x00": false, "a b": false, "'a'": false, "a/**/": false, "a$": false,
		long + "x": false, long + " ": false, "9" + long[1:]: false, long[1:] + "-": false, strings.Repeat(long, 3000): false,
	} {
		if scan.Ident(s) != want {
			t.Errorf("P407: Ident(%.20q) (%d bytes) = %v", s, len(s), !want)
		}
	}
	for c := range 256 {
		b := string([]byte{byte(c)})
		if got, want := scan.Ident(b), wordForm.MatchString(b); got != want {
			t.Errorf("P407: Ident(%q) = %v", b, got)
		}
		if got, want := scan.Ident("a"+b), rowForm.MatchString(b); got != want {
			t.Errorf("P407: Ident(%q) = %v", "a"+b, got)
		}
		if got, want := scan.Ident("a"+b+"a"), rowForm.MatchString(b); got != want {
			t.Errorf("P407: Ident(%q) = %v", "a"+b+"a", got)
		}
	}
	for n := range 300 {
		if got := scan.Ident(strings.Repeat("q", n)); got != (n >= 1 && n <= 255) {
			t.Errorf("P407: Ident of %d letters = %v", n, got)
		}
	}
}

// checkLine holds Line against a count, byte by byte.
func checkLine(t *testing.T, text string, at int) {
	t.Helper()
	line, col, e := scan.Line(text, at)
	if at < 0 || at > len(text) {
		if line != 0 || col != 0 || e != api.ErrPlace {
			t.Errorf("P408: Line(%.30q, %d) = %d, %d, %v, want ErrPlace", text, at, line, col, e)
		}
		return
	}
	wantLine, wantCol := 1, 1
	for i := range at {
		wantCol++
		if text[i] == 10 {
			wantLine, wantCol = wantLine+1, 1
		}
	}
	if line != wantLine || col != wantCol || e != api.OK {
		t.Errorf("P408: Line(%.30q, %d) = %d, %d, %v, want %d, %d", text, at, line, col, e, wantLine, wantCol)
	}
}

func TestLine(t *testing.T) { // P408
	for _, c := range []struct {
		text          string
		at, line, col int
		e             api.Errno
	}{
		{"a\nbc", 3, 2, 2, 0}, {"a\nbc", 2, 2, 1, 0}, {"", 0, 1, 1, 0}, {"a", 2, 0, 0, api.ErrPlace},
		{"a\nbc", 0, 1, 1, 0}, {"a\nbc", 1, 1, 2, 0}, {"a\nbc", 4, 2, 3, 0}, {"a\nbc", 5, 0, 0, api.ErrPlace}, {"a\nbc", -1, 0, 0, api.ErrPlace},
		{"", 1, 0, 0, api.ErrPlace}, {"", -1, 0, 0, api.ErrPlace}, {"a", math.MinInt, 0, 0, api.ErrPlace}, {"a", math.MaxInt, 0, 0, api.ErrPlace},
		{"\n", 0, 1, 1, 0}, {"\n", 1, 2, 1, 0}, {"\n\n\n", 3, 4, 1, 0}, {"é\r\té", 6, 1, 7, 0}, {"\xff\xff", 2, 1, 3, 0}, {"a\r\nb", 3, 2, 1, 0}, {"a\rb", 2, 1, 3, 0},
	} {
		if l, k, e := scan.Line(c.text, c.at); l != c.line || k != c.col || e != c.e {
			t.Errorf("P408: Line(%q, %d) = %d, %d, %v, want %d, %d, %v", c.text, c.at, l, k, e, c.line, c.col, c.e)
		}
	}
	rows([]string{"\n", "a", "\r", "\xff"}, 5, func(s string) {
		for at := -2; at <= len(s)+2; at++ {
			checkLine(t, s, at)
		}
	})
}

func TestLineLength(t *testing.T) { // P408, P5: MaxText bytes, and one more
	for _, text := range []string{strings.Repeat("\n", api.MaxText), strings.Repeat("x", api.MaxText), strings.Repeat("ab\n", api.MaxText)[:api.MaxText]} {
		for _, at := range []int{-1, 0, 1, api.MaxText - 1, api.MaxText, api.MaxText + 1} {
			checkLine(t, text, at)
		}
		for _, at := range []int{-1, 0, 1, api.MaxText, api.MaxText + 1, api.MaxText + 2} {
			if l, k, e := scan.Line(text+"\n", at); l != 0 || k != 0 || e != api.ErrLong {
				t.Errorf("P408, P5: Line of %d bytes, %d = %d, %d, %v", len(text)+1, at, l, k, e)
			}
		}
	}
}

func TestSameAgain(t *testing.T) { // P3: an answer hangs on the arguments alone
	one := func() string {
		n, e := scan.Number("0x1f")
		m, f := scan.Number("1f")
		l, k, g := scan.Line("a\nb", 3)
		return fmt.Sprint(n, e, m, f, l, k, g, scan.Ident("a"), scan.Ident("1"), scan.Quote("é\xff"))
	}
	want := one()
	for range 3 {
		scan.Tokens("a # b")
		scan.Unquote("'\\q'")
		if got := one(); got != want {
			t.Errorf("P3: %s, then %s", want, got)
		}
	}
}
