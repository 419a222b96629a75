package parse_test

import (
	"math/rand"
	"strings"
	"testing"

	"sigil/api"
	"sigil/parse"
)

// checkBoth holds Tokens of a list against the second reading.
func checkBoth(t *testing.T, l []api.Token) {
	t.Helper()
	f, bad := parse.Tokens(l)
	want, wantBad := modelRead(l)
	if bad != wantBad || !same(f, want) {
		t.Fatalf("P502, P504: %s", differs(l, f, want, bad, wantBad))
	}
}

// rightTexts are texts that have every rule of the grammar, and every way through it.
func rightTexts() []string {
	return []string{
		begin + "package a; import 'x'; ;",
		begin + "import \"x\"; package a.b.c; message M {} enum E { A = 0; }",
		begin + "message M { ; int32 a = 1; .b c = 2; d.e f = 3; .g.h.i j = 4; }",
		begin + "message M { optional int32 a = 1; repeated .b.c d = 2; optional map e = 3; repeated optional g = 4; }",
		begin + "message M { map<string, int32> a = 1; map<.b.c, .d> e = 2; map f = 3; map.g h = 4; }",
		begin + "message M { oneof o { int32 a = 1; ; .b.c d = 2; map e = 3; } oneof p { f g = 4; } }",
		begin + "message M { reserved 1; reserved 2, 3 to 4, 5 to max; reserved 'a', \"b\"; }",
		begin + "enum E { ; A = 0; B = - 1; reserved 1; reserved - 5 to - 2, - 1 to 3, 4 to max, - 3; reserved 'a', 'b'; }",
		begin + "message M { message N { enum E { A = 0; } message O { } } enum F { B = -2147483648; } }",
	}
}

// palette are tokens of every kind, right and wrong ones, and such as no text has.
func palette() []api.Token {
	long := strings.Repeat("n", api.MaxName)
	var l []api.Token
	add := func(kind int, texts ...string) {
		for _, s := range texts {
			l = append(l, api.Token{Kind: kind, Text: s})
		}
	}
	add(api.TokIdent, strings.Fields(special)...)
	add(api.TokIdent, "a", "int32", long, long+"n", "", "9a", "a.b", "é", "\xff", ";", "{", "}", ".", "-", "=", "'a'", "1", strings.Repeat("é", api.MaxName))
	add(api.TokSign, "{", "}", "[", "]", "(", ")", "<", ">", ";", ",", "=", ".", "-", "", "?", "{}", "message", "a", "1", "syntax")
	add(api.TokNumber, "0", "1", "4", "017", "0x1F", "536870911", "536870912", "2147483647", "2147483648", "2147483649", "4294967296", "9223372036854775807", "9223372036854775808", "", "a", "-1", "08", "'a'", strings.Repeat("0", api.MaxText+1))
	add(api.TokString, "'proto3'", "\"proto3\"", "'proto2'", "''", "\"a\"", "'a.b'", "'9'", "'\\x41'", "'\\xff'", "'"+long+"'", "'"+long+"n'", "'"+strings.Repeat("é", 200)+"'", "'", "", "a", "'a", "'\xff'", "'"+strings.Repeat("n", api.MaxText)+"'")
	add(api.TokEnd, "", "a", ";")
	for _, kind := range []int{0, 6, -1, 9} {
		add(kind, "", "a", ";", "}", "message", "1", "'a'")
	}
	return l
}

// short are some of the palette, for longer rows.
func short() []api.Token {
	var l []api.Token
	for _, w := range strings.Fields("message enum oneof reserved optional map option group to max a") {
		l = append(l, api.Token{Kind: api.TokIdent, Text: w})
	}
	for _, s := range strings.Fields("{ } [ < > ; , = . -") {
		l = append(l, api.Token{Kind: api.TokSign, Text: s})
	}
	return append(l, api.Token{Kind: api.TokNumber, Text: "1"}, api.Token{Kind: api.TokNumber, Text: "0"}, api.Token{Kind: api.TokNumber, Text: "2147483648"}, api.Token{Kind: api.TokString, Text: "'a'"}, api.Token{Kind: api.TokString, Text: "'a b'"})
}

// placed are the tokens, with places that tell them apart and that no text has.
func placed(l []api.Token) []api.Token {
	m := append([]api.Token(nil), l...)
	for i := range m {
		m[i].At = (i*7919+13)%10007 - 5000
	}
	return m
}

// spliced are the tokens with some taken out at i, and others put there.
func spliced(l []api.Token, i, out int, in ...api.Token) []api.Token {
	m := append([]api.Token(nil), l[:i]...)
	m = append(m, in...)
	return placed(append(m, l[i+out:]...))
}

func TestEachTokenChanged(t *testing.T) { // P504: every rule, with each token left out, doubled, changed, and another one ahead
	t.Parallel()
	for _, text := range rightTexts() {
		l := tokens(text)
		if _, bad := parse.Tokens(l); bad != (api.Fault{}) {
			t.Fatalf("P502: %q: %+v", text, bad)
		}
		checkBoth(t, placed(l))
		for i, tok := range l {
			checkBoth(t, spliced(l, i, 1))
			checkBoth(t, spliced(l, i, 0, tok))
			if i+1 < len(l) {
				checkBoth(t, spliced(l, i, 2))
				checkBoth(t, spliced(l, i, 2, l[i+1], tok))
			}
			for _, p := range palette() {
				checkBoth(t, spliced(l, i, 1, p))
				checkBoth(t, spliced(l, i, 0, p))
			}
		}
		for _, p := range palette() {
			checkBoth(t, spliced(l, len(l), 0, p))
		}
	}
}

// places are fronts of texts: behind each there is another choice.
func places() []string {
	return []string{
		"", "syntax", "syntax =", "syntax = 'proto3'", begin, begin + "package", begin + "package a", begin + "import", begin + "import 'x'", begin + "message", begin + "message M",
		begin + "message M {", begin + "message M { optional", begin + "message M { repeated", begin + "message M { map", begin + "message M { map<", begin + "message M { map<a", begin + "message M { map<a,", begin + "message M { map<a, b", begin + "message M { map<a, b>",
		begin + "message M { a", begin + "message M { .", begin + "message M { a.", begin + "message M { .a b", begin + "message M { a b =", begin + "message M { a b = 1", begin + "message M { map<a, b> c = 1",
		begin + "message M { oneof", begin + "message M { oneof o", begin + "message M { oneof o {", begin + "message M { oneof o { a", begin + "message M { oneof o { a b = 1", begin + "message M { oneof o { a b = 1;",
		begin + "message M { reserved", begin + "message M { reserved 4", begin + "message M { reserved 4 to", begin + "message M { reserved 4 to 5", begin + "message M { reserved 4,", begin + "message M { reserved 'a'", begin + "message M { reserved 'a',",
		begin + "enum", begin + "enum E", begin + "enum E {", begin + "enum E { A", begin + "enum E { A =", begin + "enum E { A = -", begin + "enum E { A = 1", begin + "enum E { A = 0;",
		begin + "enum E { reserved", begin + "enum E { reserved -", begin + "enum E { reserved -4", begin + "enum E { reserved 4 to", begin + "enum E { reserved -4 to -", begin + "enum E { reserved 'a',", begin + "message M { message N { } enum E { A = 1; }",
	}
}

func TestRowsOfTokens(t *testing.T) { // P504: behind each front, all rows of two tokens of every kind and of three of some
	t.Parallel()
	for _, front := range places() {
		l := placed(tokens(front))
		t.Run(front, func(t *testing.T) {
			t.Parallel()
			rowsBehind(t, l, palette(), 2)
			rowsBehind(t, l, short(), 3)
		})
	}
}

// rowsBehind holds all rows of up to n of the tokens behind a front against the second reading. Behind a fault it goes on with a few alone.
func rowsBehind(t *testing.T, l, some []api.Token, n int) {
	t.Helper()
	checkBoth(t, l)
	if n == 0 {
		return
	}
	if _, bad := modelRead(l); bad.Err != api.OK && bad.Err != api.ErrEnd {
		some = some[:3]
	}
	for i, tok := range some {
		tok.At = i - 20*n
		rowsBehind(t, append(l[:len(l):len(l)], tok), some, n-1)
	}
}

func TestMadeByTheGrammar(t *testing.T) { // P502, P504: texts made by the grammar, whole and with changes
	t.Parallel()
	r := rand.New(rand.NewSource(1))
	all := palette()
	right := 0
	for range 20000 {
		k := maker{r, 1 + r.Intn(60)}
		texts := k.made(rules["file"], "file", nil)
		l := tokens(strings.Join(texts, " "))
		checkBoth(t, l)
		if _, bad := parse.Tokens(l); bad.Err == api.OK {
			right++
		}
		for range 3 {
			i := r.Intn(len(l))
			checkBoth(t, spliced(l, i, r.Intn(2), all[r.Intn(len(all))]))
		}
	}
	if right < 2000 {
		t.Errorf("only %d of the texts are right", right)
	}
}

func TestMadeOfTokens(t *testing.T) { // P502: rows of any tokens
	t.Parallel()
	r := rand.New(rand.NewSource(2))
	all, fronts := palette(), places()
	for range 100000 {
		l := tokens(fronts[r.Intn(len(fronts))])
		for range r.Intn(12) {
			tok := all[r.Intn(len(all))]
			tok.At = int(r.Uint64())
			l = append(l, tok)
		}
		checkBoth(t, l)
	}
}
