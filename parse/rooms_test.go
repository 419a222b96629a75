package parse_test

import (
	"fmt"
	"strings"
	"testing"

	"sigil/api"
	"sigil/parse"
)

func TestNest(t *testing.T) { // P504: MaxDecl messages open, and one more
	for _, unit := range []string{"message M { ", "message message { ; enum E { A = 0; } ", "message M { a b = 1; "} {
		open, end := strings.Repeat(unit, 32), strings.Repeat("}", 32)
		f, bad := parse.Parse(begin + open + end)
		depth := 0
		for l := f.Messages; len(l) > 0; l = l[0].Messages {
			depth++
		}
		if bad != (api.Fault{}) || depth != 32 {
			t.Errorf("P504: 32 messages in one another: %d, %+v", depth, bad)
		}
		for _, in := range []string{"a message = 1; ", "enum E { A = 0; } ", "oneof message { a b = 1; } ", "reserved 'message'; ", ""} {
			checkMarked(t, open+in+"@message N { }"+end, api.ErrNest)
			checkMarked(t, open+in+"@message 1", api.ErrNest)
			checkMarked(t, open+in+"@message", api.ErrNest)
			checkMarked(t, open+in+"} message N { @message O", api.ErrNest)
			if _, bad := parse.Parse(begin + open + in + "} message N { }" + end[1:] + open + in + end); bad != (api.Fault{}) {
				t.Errorf("P504: messages that are closed are not open: %+v", bad)
			}
		}
		checkMarked(t, open+"oneof o { @message N { }", api.ErrWord)
		checkMarked(t, open+"optional message @{", api.ErrSyntax)
	}
}

// filler is a message of n declarations, from 2 on.
func filler(n int) string {
	return "message F{reserved 'a'" + strings.Repeat(",'a'", n-2) + ";}"
}

func TestDecls(t *testing.T) { // P504: MaxDecls declarations and one more, for each kind of declaration
	for _, c := range []struct {
		marked string
		ahead  int // declarations ahead of the mark
		all    int
	}{
		{"@import 'x';", 0, 1}, {"import 'x'; @import 'y';", 1, 2},
		{"@message M { }", 0, 1}, {"message M { @message N { } }", 1, 2}, {"message M { } @message N { }", 1, 2}, {"message M { message N { } @message O { } }", 2, 3},
		{"@enum E { A = 0; }", 0, 2}, {"enum E { @A = 0; }", 1, 2}, {"enum E { A = 0; @B = -1; }", 2, 3}, {"message M { @enum E { A = 0; } }", 1, 3}, {"message M { enum E { @A = 0; } }", 2, 3},
		{"message M { @a b = 1; }", 1, 2}, {"message M { @.a b = 1; }", 1, 2}, {"message M { @a.b.c d = 1; }", 1, 2}, {"message M { a b = 1; @a b = 1; }", 2, 3}, {"message M { @optional a b = 1; }", 1, 2}, {"message M { @repeated .a b = 1; }", 1, 2}, {"message M { @map b = 1; }", 1, 2}, {"message M { @map.a b = 1; }", 1, 2},
		{"message M { @map<a, b> c = 1; }", 1, 2}, {"message M { map<a, b> c = 1; @map<a, b> c = 1; }", 2, 3},
		{"message M { @oneof o { a b = 1; } }", 1, 3}, {"message M { oneof o { @a b = 1; } }", 2, 3}, {"message M { oneof o { a b = 1; @.a b = 1; } }", 3, 4}, {"message M { oneof o { a b = 1; } @oneof o { a b = 1; } }", 3, 5},
		{"message M { reserved @1; }", 1, 2}, {"message M { reserved @1 to 2; }", 1, 2}, {"message M { reserved @1 to max; }", 1, 2}, {"message M { reserved 1, 2 to 3, @4; }", 3, 4}, {"message M { reserved 1 to 2; reserved @3; }", 2, 3}, {"message M { reserved @'a'; }", 1, 2}, {"message M { reserved 'a', @'a'; }", 2, 3},
		{"enum E { A = 0; reserved @1; }", 2, 3}, {"enum E { A = 0; reserved @-1; }", 2, 3}, {"enum E { A = 0; reserved @-1 to -1; }", 2, 3}, {"enum E { A = 0; reserved -1 to 1, @- 5 to max; }", 3, 4}, {"enum E { A = 0; reserved @'a'; }", 2, 3}, {"enum E { A = 0; reserved 'a', @'b'; }", 3, 4},
		{"package a; @import 'x';", 0, 1}, {"; ; message M { ; oneof o { ; ; @a b = 1; } }", 2, 3}, // no declarations: a package, a `;`
	} {
		checkMarked(t, filler(4096-c.ahead)+c.marked, api.ErrDecls)
		text := strings.Replace(c.marked, "@", "", 1)
		if _, bad := parse.Parse(begin + filler(4096-c.all) + text); bad != (api.Fault{}) {
			t.Errorf("P504: 4096 declarations, with %q: %+v", text, bad)
		}
		if _, bad := parse.Parse(begin + filler(4097-c.all) + text); bad.Err != api.ErrDecls {
			t.Errorf("P504: 4097 declarations, with %q: %+v", text, bad)
		}
		checkBoth(t, tokens(begin+filler(4096-c.ahead)+text))
	}
}

func TestDeclsOfOneKind(t *testing.T) { // P504: each of many counts once
	const n = 500
	for unit, per := range map[string]int{
		"import 'x';": 1, "message M{}": 1, "enum E{A=0;}": 2, "message M{a b=1;}": 2, "message M{optional a b=1;}": 2, "message M{map<a,b>c=1;}": 2, "message M{oneof o{a b=1;}}": 3, "message M{reserved 1,2 to 3;}": 3, "message M{reserved 'a';}": 2, "enum E{A=0;reserved -1;}": 3,
	} {
		text := strings.Repeat(unit, n)
		if _, bad := parse.Parse(begin + text + filler(4096-n*per)); bad != (api.Fault{}) {
			t.Errorf("P504: 4096 declarations with %d times %s: %+v", n, unit, bad)
		}
		checkMarked(t, filler(4096-n*per)+text+"@import 'x';", api.ErrDecls)
	}
}

func TestDeclsAndOthers(t *testing.T) { // P504: the other faults of the token come ahead of ErrDecls, those of the tokens behind come behind it
	long := strings.Repeat("n", 255)
	full := filler(4095) + "message M { " // 4096 in all
	for marked, e := range map[string]api.Errno{
		"@": api.ErrEnd, "@option": api.ErrWord, "@group": api.ErrWord, "@1": api.ErrSyntax, "@=": api.ErrSyntax, "@" + long + "n b = 1;": api.ErrLong,
		"reserved @0;": api.ErrRange, "reserved @536870912;": api.ErrRange, "reserved @-1;": api.ErrSyntax, "reserved @'9';": api.ErrSyntax, "reserved @'" + long + "n'": api.ErrLong, "reserved @a": api.ErrSyntax, "reserved @": api.ErrEnd,
		"@a 1": api.ErrDecls, "@a": api.ErrDecls, "@optional group": api.ErrDecls, "@optional": api.ErrDecls, "@map <": api.ErrDecls, "@map a <": api.ErrDecls, "@oneof 1": api.ErrDecls, "@enum {": api.ErrDecls, "@message 1": api.ErrDecls, "reserved @1 to 0;": api.ErrDecls, "reserved @'a' 1": api.ErrDecls,
		"@." + long + " b = 1;": api.ErrDecls, "@a." + long + " b = 1;": api.ErrDecls, "@." + long + "n": api.ErrDecls, "@.": api.ErrDecls, "@. 1": api.ErrDecls, "@" + long + ".a b = 1;": api.ErrDecls,
	} {
		checkMarked(t, full+marked, e)
	}
	full = filler(4094) + "enum E { A = 0; "
	for marked, e := range map[string]api.Errno{
		"reserved @- 2147483649;": api.ErrDecls, "reserved @-a": api.ErrDecls, "reserved @-": api.ErrDecls, "reserved @2147483648;": api.ErrRange, "@option": api.ErrWord, "@B 1": api.ErrDecls, "@B = 2147483648;": api.ErrDecls, "@" + long + "n": api.ErrLong, "@1": api.ErrSyntax,
	} {
		checkMarked(t, full+marked, e)
	}
	full = filler(4096)
	for marked, e := range map[string]api.Errno{
		"@import public": api.ErrDecls, "@import '';": api.ErrDecls, "package @a." + long + ";": api.ErrLong, "@service": api.ErrWord, "package a; @package b;": api.ErrSyntax, "package a; ; @message {": api.ErrDecls,
	} {
		checkMarked(t, full+marked, e)
	}
	checkMarked(t, filler(4096-32)+strings.Repeat("message M { ", 32)+"@message N { }", api.ErrNest)
	l := tokens(begin + filler(4095) + "message M { ")
	for tok, e := range map[api.Token]api.Errno{
		{Kind: 1, At: 3, Text: "9"}: api.ErrSyntax, {Kind: 1, At: 3, Text: "a"}: api.ErrDecls, {Kind: 4, At: 3, Text: "."}: api.ErrDecls, {Kind: 4, At: 3, Text: "message"}: api.ErrSyntax, {Kind: 9, At: 3, Text: "a"}: api.ErrSyntax,
	} {
		checkTokens(t, append(l[:len(l):len(l)], tok), api.Fault{Err: e, At: 3})
	}
	l = append(l, tokens("reserved")...)
	for tok, e := range map[api.Token]api.Errno{
		{Kind: 2, At: 3, Text: "x"}: api.ErrDigits, {Kind: 2, At: 3, Text: "1"}: api.ErrDecls, {Kind: 3, At: 3, Text: "x"}: api.ErrString, {Kind: 3, At: 3, Text: "'x'"}: api.ErrDecls, {Kind: 3, At: 3, Text: "'\xff'"}: api.ErrCoding,
	} {
		checkTokens(t, append(l[:len(l):len(l)], tok), api.Fault{Err: e, At: 3})
	}
}

func TestDeclsAgainstModel(t *testing.T) { // P504: near the bound, against the second reading
	t.Parallel()
	some := short()
	for ahead := 4095; ahead <= 4096; ahead++ {
		for _, front := range []string{"", "message M { ", "message M { a b = 1; oneof o { ", "enum E { A = 0; ", "message M { reserved ", "enum E { reserved "} {
			l := tokens(begin + filler(ahead) + front)
			for i, a := range some {
				a.At = i
				checkBoth(t, append(l[:len(l):len(l)], a, some[(i+ahead)%len(some)]))
			}
		}
	}
}

// gaps are what may stand between two tokens.
func gaps() []string {
	return []string{" ", "\n", "\t\r\v\f ", "/**/", " // ; { } message\n", "/* ; } */ ", "/***/", "//\n//\n", " /* é */\n\n"}
}

func TestBlanksAndComments(t *testing.T) { // P505: they change nothing but places
	texts := rightTexts()
	for _, text := range faultTexts() {
		texts = append(texts, text)
	}
	for i, text := range texts {
		l := tokens(text)
		f, bad := parse.Parse(text)
		for j, gap := range gaps() {
			var b strings.Builder
			at := map[int]int{} // from the old places to the new ones
			for k, tok := range l {
				b.WriteString([]string{gap, gaps()[(i+j+k)%len(gaps())]}[k%2])
				at[tok.At] = b.Len()
				b.WriteString(tok.Text)
			}
			b.WriteString(gap)
			at[len(text)] = b.Len()
			want := bad
			want.At = at[bad.At]
			if bad.Err == api.OK {
				want = bad
			}
			if g, got := parse.Parse(b.String()); got != want || !same(f, g) {
				t.Errorf("P505: Parse(%q) = %+v, %+v, want %+v, %+v", b.String(), g, got, f, want)
			}
		}
	}
}

// faultTexts are texts with a fault each.
func faultTexts() []string {
	return []string{
		"", "syntax", "syntax = 'proto2';", begin + "service S {}", begin + "message M { required a b = 1; }", begin + "message M { a b = 1 [c = d]; }", begin + "message M { oneof o { } }", begin + "enum E { ; }", begin + "message M { reserved 5 to 4; }", begin + "enum E { A = -2147483649; }",
		begin + "package a.b; package c;", begin + "message M { map<a, b c = 1; }", begin + "message M { a." + strings.Repeat("n", 254) + " b = 1; }", begin + "message M { ." + strings.Repeat("n", 255) + " b = 1; }", begin + "package " + strings.Repeat("n", 254) + ". b;", begin + strings.Repeat("message M { ", 33), begin + "message M {", begin + "import '';", begin + "message M { reserved 'a.b'; }",
	}
}

func TestEmptyStatements(t *testing.T) { // P505: a `;` where one may stand alone
	for _, text := range []string{
		begin + "|package a;|import 'x';|message M {|}|enum E {|A = 0;|}|",
		begin + "|message M {|int32 a = 1;|optional b c = 2;|map<d, e> f = 3;|oneof o {|g h = 4;|i j = 5;|}|reserved 1, 2;|reserved 'a';|message N {|}|enum E {|A = 0;|reserved 1;|B = -1;|}|}|",
		begin + "|message M {|oneof o {|g h = 4;|i j = 5;|}|oneof p {|k l = 6;|}|m n = 7;|}|",
	} {
		want, bad := parse.Parse(strings.ReplaceAll(text, "|", ""))
		if bad != (api.Fault{}) {
			t.Fatalf("P502: %q: %+v", text, bad)
		}
		for _, empty := range []string{";", ";;", " ; /* ; */ ; ", ";;;;;;;;"} {
			checkFile(t, strings.ReplaceAll(text, "|", empty), want)
			for i := range strings.Count(text, "|") {
				pieces := strings.Split(text, "|")
				checkFile(t, strings.Join(pieces[:i+1], "")+empty+strings.Join(pieces[i+1:], ""), want)
			}
		}
	}
	// Elsewhere it may not.
	for _, text := range rightTexts() {
		l := tokens(text)
		for i := range l {
			checkBoth(t, spliced(l, i, 0, api.Token{Kind: 4, Text: ";"}))
		}
	}
	for _, marked := range []string{"message @; M {}", "message M @; { }", "message M { a @; b = 1; }", "message M { reserved 1,@; 2; }", "import @; 'x';", "package a.@; b;", "message M { oneof o @; { a b = 1; } }"} {
		checkMarked(t, marked, api.ErrSyntax)
	}
}

// declaredFront says whether f declares no more than the front of what g declares.
func declaredFront(f, g api.File) bool {
	if f.Package != "" && f.Package != g.Package || len(f.Imports) > len(g.Imports) || len(f.Messages) > len(g.Messages) || len(f.Enums) > len(g.Enums) {
		return false
	}
	g.Package, g.Imports, g.Messages, g.Enums = f.Package, g.Imports[:len(f.Imports)], g.Messages[:len(f.Messages)], g.Enums[:len(f.Enums)]
	return same(f, g)
}

func TestFronts(t *testing.T) { // P506: each front of a right text
	texts := append(rightTexts(), begin+"message A { message B { } } enum E { A = 0; } import 'x'; ; package a.b; message C { oneof o { a b = 1; } reserved 1; }",
		begin+"package "+strings.Repeat("n.", 127)+"n; message M { ."+strings.Repeat("n", 254)+" a = 1; }", begin+strings.Repeat("message M { ", 32)+strings.Repeat("}", 32))
	for _, text := range texts {
		l := tokens(text)
		whole, bad := parse.Tokens(l)
		if bad != (api.Fault{}) {
			t.Fatalf("P502: %q: %+v", text, bad)
		}
		open, end := 0, 0
		for n := range len(l) + 1 {
			closed := false
			if n > 0 {
				tok := l[n-1]
				end = tok.At + len(tok.Text)
				open += strings.Count(tok.Text, "{") - strings.Count(tok.Text, "}")
				closed = n >= 4 && open == 0 && (tok.Text == ";" || tok.Text == "}")
			}
			f, bad := parse.Tokens(l[:n])
			g, cut := parse.Parse(text[:end])
			if bad != cut || !same(f, g) {
				t.Errorf("P506: Parse(%q) = %+v, %+v, but Tokens %+v, %+v", text[:end], g, cut, f, bad)
			}
			if closed && (bad != (api.Fault{}) || !declaredFront(f, whole)) {
				t.Errorf("P506: a front of %q: %q: %+v, %+v", text, text[:end], f, bad)
			}
			if !closed && bad != (api.Fault{Err: api.ErrEnd, At: end}) {
				t.Errorf("P506: a front of %q: %q: %+v, want ErrEnd at %d", text, text[:end], bad, end)
			}
		}
	}
}

func TestPlaces(t *testing.T) { // P507: a fault's place is its token's, whatever it is
	lists := map[string]func(i int) int{
		"fall": func(i int) int { return -i }, "rise": func(i int) int { return 1000 + 5*i }, "far": func(i int) int { return 1<<62 + i }, "below": func(i int) int { return -1<<63 + i }, "mixed": func(i int) int { return (i * 7919) % 1009 },
	}
	for _, text := range append(faultTexts(), rightTexts()...) {
		old := append(tokens(text), api.Token{Kind: 5, At: len(text)})
		f, bad := parse.Tokens(old)
		for name, place := range lists {
			l := append([]api.Token(nil), old...)
			want := bad
			for i := range l {
				l[i].At = place(i)
				if bad.Err != api.OK && old[i].At == bad.At {
					want.At = place(i)
				}
			}
			if g, got := parse.Tokens(l); got != want || !same(f, g) {
				t.Errorf("P507: %.60q, places that %s: %+v, want %+v", text, name, got, want)
			}
			for i := range l {
				l[i].At = 42
			}
			if bad.Err != api.OK {
				want.At = 42
			}
			if g, got := parse.Tokens(l); got != want || !same(f, g) {
				t.Errorf("P507: %.60q, all at one place: %+v, want %+v", text, got, want)
			}
		}
	}
}

func TestSameAgain(t *testing.T) { // P3: an answer hangs on the arguments alone
	all := append(rightTexts(), faultTexts()...)
	tell := func() string {
		s := ""
		for _, text := range all {
			f, bad := parse.Parse(text)
			s += fmt.Sprintf("%+v %+v\n", f, bad)
		}
		return s
	}
	want := tell()
	for range 3 {
		parse.Parse(begin + filler(4096) + "import 'x';")
		parse.Parse(begin + strings.Repeat("message M { ", 33))
		if got := tell(); got != want {
			t.Errorf("P3: %s, then %s", want, got)
		}
	}
	done := make(chan string)
	for range 8 {
		go func() { done <- tell() }()
	}
	for range 8 {
		if got := <-done; got != want {
			t.Errorf("P3: side by side: %s", got)
		}
	}
}
