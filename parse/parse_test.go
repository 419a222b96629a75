package parse_test

import (
	"fmt"
	"math"
	"reflect"
	"strings"
	"testing"

	"sigil/api"
	"sigil/parse"
	"sigil/scan"
)

// The face, as the chapter has it.
var (
	_ func(string) (api.File, api.Fault)      = parse.Parse
	_ func([]api.Token) (api.File, api.Fault) = parse.Tokens
	_ func(string) bool                       = parse.Word
)

const begin = "syntax = \"proto3\"; "

// checkFile holds Parse of a text against declarations, and Tokens of its tokens too.
func checkFile(t *testing.T, text string, want api.File) {
	t.Helper()
	if f, bad := parse.Parse(text); bad != (api.Fault{}) || !same(f, want) {
		t.Errorf("P502: Parse(%.200q) = %.600s, %+v, want %.600s", text, fmt.Sprintf("%+v", f), bad, fmt.Sprintf("%+v", want))
	}
	l, _, _ := scan.Tokens(text)
	if f, bad := parse.Tokens(l); bad != (api.Fault{}) || !same(f, want) {
		t.Errorf("P502: Tokens of %.200q = %.600s, %+v, want %.600s", text, fmt.Sprintf("%+v", f), bad, fmt.Sprintf("%+v", want))
	}
}

// same says whether two files declare the same (nil and empty lists are the same).
func same(f, g api.File) bool {
	return reflect.DeepEqual(f, g) || fmt.Sprintf("%+v", f) == fmt.Sprintf("%+v", g)
}

// checkFault holds Parse of a text against a fault.
func checkFault(t *testing.T, text string, at int, e api.Errno) {
	t.Helper()
	want := api.Fault{Err: e, At: at}
	if f, bad := parse.Parse(text); bad != want || !same(f, api.File{}) {
		t.Errorf("P504: Parse(%.200q) (%d bytes) = %.200s, %+v, want nothing, %+v", text, len(text), fmt.Sprintf("%+v", f), bad, want)
	}
}

// checkMarked does so for a text behind `syntax`, in which an @ stands ahead of the token at fault.
func checkMarked(t *testing.T, marked string, e api.Errno) {
	t.Helper()
	ahead, behind, found := strings.Cut(begin+marked, "@")
	if !found {
		t.Fatalf("no mark in %q", marked)
	}
	checkFault(t, ahead+behind, len(ahead), e)
}

// one is the message M of a text.
func one(m api.MessageDecl) api.File {
	m.Name = "M"
	return api.File{Messages: []api.MessageDecl{m}}
}

// field is a message M with one field.
func field(d api.FieldDecl) api.File { return one(api.MessageDecl{Fields: []api.FieldDecl{d}}) }

func TestExamples(t *testing.T) { // P502, P504: the chapter's examples
	checkFile(t, `syntax = "proto3"; package a.b; import "x.proto"; message M { int32 a = 1; }`, api.File{Package: "a.b", Imports: []string{"x.proto"},
		Messages: []api.MessageDecl{{Name: "M", Fields: []api.FieldDecl{{Card: api.CSingle, Type: "int32", Name: "a", Number: 1}}}}})
	checkFile(t, `syntax='proto3';message M{optional .p.N n=2;repeated N l=3;map<string,N>m=4;oneof o{N x=5;;int32 y=6;}reserved 7,9 to 11,20 to max;reserved "q","r";message I{}enum E{A=0;B=-1;reserved -5 to -2;}}`, one(api.MessageDecl{
		Fields: []api.FieldDecl{
			{Card: api.COptional, Type: ".p.N", Name: "n", Number: 2}, {Card: api.CRepeated, Type: "N", Name: "l", Number: 3}, {Card: api.CMap, Key: "string", Type: "N", Name: "m", Number: 4},
			{Card: api.CSingle, Type: "N", Name: "x", Number: 5, Oneof: 1}, {Card: api.CSingle, Type: "int32", Name: "y", Number: 6, Oneof: 1}},
		Oneofs: []string{"o"}, Reserved: []api.Range{{From: 7, To: 7}, {From: 9, To: 11}, {From: 20, To: 536870911}}, Gone: []string{"q", "r"},
		Messages: []api.MessageDecl{{Name: "I"}},
		Enums:    []api.EnumDecl{{Name: "E", Values: []api.EnumValue{{Name: "A"}, {Name: "B", Number: -1}}, Reserved: []api.Range{{From: -5, To: -2}}}}}))
	checkFault(t, "", 0, api.ErrEnd)
	checkFault(t, `syntax = "proto2";`, 9, api.ErrSyntax)
	checkFault(t, `message M {}`, 0, api.ErrSyntax)
	checkFault(t, `syntax = "proto3"`, 17, api.ErrEnd)
	for _, c := range []struct {
		text string
		at   int
		e    api.Errno
	}{
		{`service S {}`, 19, api.ErrWord}, {`import public "x";`, 26, api.ErrWord}, {`message M { required int32 a = 1; }`, 31, api.ErrWord},
		{`message M { int32 a = 1 [deprecated = true]; }`, 43, api.ErrWord}, {`message M { oneof o { } }`, 41, api.ErrSyntax},
		{`message M { int32 a; }`, 38, api.ErrSyntax}, {`message M { int32 = 1; }`, 37, api.ErrSyntax}, {`message M { reserved 5 to 4; }`, 45, api.ErrRange},
		{`message M { reserved -1; }`, 40, api.ErrSyntax}, {`enum E { A = 2147483648; }`, 32, api.ErrRange}, {`message M { repeated map<string, int32> m = 1; }`, 43, api.ErrSyntax},
		{`message message { message message = 1; }`, 53, api.ErrSyntax}, {`message M { optional optional = 1; }`, 49, api.ErrSyntax}, {`message M { int32 a = 4294967296; }`, 41, api.ErrRange},
	} {
		checkFault(t, begin+c.text, c.at, c.e)
	}
	checkFile(t, begin+`enum E { A = -2147483648; }`, api.File{Enums: []api.EnumDecl{{Name: "E", Values: []api.EnumValue{{Name: "A", Number: -2147483648}}}}})
	checkFile(t, begin+`message M { map<string, int32> m = 1; }`, field(api.FieldDecl{Card: api.CMap, Key: "string", Type: "int32", Name: "m", Number: 1}))
	checkFile(t, begin+`message M { map m = 1; }`, field(api.FieldDecl{Card: api.CSingle, Type: "map", Name: "m", Number: 1}))
	checkFile(t, begin+`message M { optional optional optional = 1; }`, field(api.FieldDecl{Card: api.COptional, Type: "optional", Name: "optional", Number: 1}))
}

func TestParseScans(t *testing.T) { // P501: the faults of scan.Tokens, ahead of all others
	for text, want := range map[string]api.Fault{
		begin + "# x":                            {Err: api.ErrChar, At: 19},
		"message # x":                            {Err: api.ErrChar, At: 8},
		"}{ \xff":                                {Err: api.ErrCoding, At: 3},
		begin + "message 9a {}":                  {Err: api.ErrDigits, At: 27},
		begin + "import 'x":                      {Err: api.ErrString, At: 26},
		begin + "/* x":                           {Err: api.ErrComment, At: 19},
		"service 'x":                             {Err: api.ErrString, At: 8},
		begin + "message M { int32 a = 1.5e3; }": {Err: api.ErrDigits, At: 43},
		begin + "enum E { A = 99999999999999999999; }":  {Err: api.ErrDigits, At: 32},
		strings.Repeat(" ", api.MaxText+1):              {Err: api.ErrLong},
		strings.Repeat("\xff", api.MaxText+1):           {Err: api.ErrLong},
		strings.Repeat(";", api.MaxTokens):              {Err: api.ErrTokens, At: api.MaxTokens - 1},
		begin + strings.Repeat(";", api.MaxTokens):      {Err: api.ErrTokens, At: 19 + api.MaxTokens - 5},
		begin + strings.Repeat("{", api.MaxTokens-6):    {Err: api.ErrSyntax, At: 19},
		"syntax='proto3';" + strings.Repeat("'", 30001): {Err: api.ErrString, At: 30016},
	} {
		if f, bad := parse.Parse(text); bad != want || !same(f, api.File{}) {
			t.Errorf("P501: Parse(%.60q) (%d bytes) = %.60s, %+v, want %+v", text, len(text), fmt.Sprintf("%+v", f), bad, want)
		}
	}
	checkFile(t, begin+strings.Repeat(";", api.MaxTokens-5), api.File{})
	checkFile(t, begin+strings.Repeat(" ", api.MaxText-len(begin)), api.File{})
	checkFile(t, begin+strings.Repeat(" ", api.MaxText-len(begin)-2)+"//", api.File{})
}

// tokens are the tokens of a text without the end.
func tokens(text string) []api.Token {
	l, at, e := scan.Tokens(text)
	if e != api.OK {
		panic(fmt.Sprintf("%q: %v at %d", text, e, at))
	}
	return l[:len(l)-1]
}

// checkTokens holds Tokens of a list against a fault.
func checkTokens(t *testing.T, l []api.Token, want api.Fault) {
	t.Helper()
	f, bad := parse.Tokens(l)
	if bad != want || want.Err != api.OK && !same(f, api.File{}) {
		t.Errorf("P502: Tokens of %d (%.200s) = %.200s, %+v, want %+v", len(l), fmt.Sprint(l), fmt.Sprintf("%+v", f), bad, want)
	}
}

func TestTokensEnd(t *testing.T) { // P502: no end, one in the middle, one with a text, an empty list
	checkTokens(t, nil, api.Fault{Err: api.ErrEnd})
	checkTokens(t, []api.Token{}, api.Fault{Err: api.ErrEnd})
	checkTokens(t, []api.Token{{Kind: 1, At: 7, Text: "syntax"}}, api.Fault{Err: api.ErrEnd, At: 13})
	checkTokens(t, []api.Token{{Kind: 1, At: -7, Text: "syntax"}}, api.Fault{Err: api.ErrEnd, At: -1})
	checkTokens(t, []api.Token{{Kind: 1, At: 7, Text: "syntax"}, {Kind: 4, At: 100, Text: "="}}, api.Fault{Err: api.ErrEnd, At: 101})
	checkTokens(t, []api.Token{{Kind: 1, At: 7, Text: "syntax"}, {Kind: 5, At: 3}}, api.Fault{Err: api.ErrEnd, At: 3})
	checkTokens(t, []api.Token{{Kind: 5, At: 42, Text: "syntax"}}, api.Fault{Err: api.ErrEnd, At: 42})
	checkTokens(t, []api.Token{{Kind: 9, At: 3, Text: "syntax"}}, api.Fault{Err: api.ErrSyntax, At: 3})
	l := tokens(begin + "message M { int32 a = 1; }")
	want := field(api.FieldDecl{Card: 1, Type: "int32", Name: "a", Number: 1})
	end := api.Token{Kind: 5, At: 77, Text: "end"}
	junk := []api.Token{{Kind: 9}, {Kind: 1, Text: "message"}, {Kind: 5}, {Kind: 3, Text: "'"}}
	for _, behind := range [][]api.Token{nil, {end}, append([]api.Token{end}, junk...), {end, end}} {
		if f, bad := parse.Tokens(append(l[:len(l):len(l)], behind...)); bad != (api.Fault{}) || !same(f, want) {
			t.Errorf("P502: with %v behind: %+v, %+v", behind, f, bad)
		}
	}
	for n := range l {
		front := l[:n:n]
		checkTokens(t, append(append(front, end), l[n:]...), frontFault(n, 77))
		checkTokens(t, append(append(front, end), junk...), frontFault(n, 77))
	}
	far := append(l[:5:5], api.Token{Kind: 1, At: math.MaxInt, Text: "N"})
	last := api.Token{At: math.MaxInt, Text: "N"}
	checkTokens(t, far, api.Fault{Err: api.ErrEnd, At: last.At + len(last.Text)}) // it wraps round
}

// frontFault is the fault of the first n tokens of `syntax` and one message, with an end at that place.
func frontFault(n, at int) api.Fault {
	if n == 4 {
		return api.Fault{}
	}
	return api.Fault{Err: api.ErrEnd, At: at}
}

func TestTokensMany(t *testing.T) { // P502: MaxTokens tokens, and one more
	l := tokens(begin)
	for len(l) < api.MaxTokens {
		l = append(l, api.Token{Kind: 4, At: 3, Text: ";"})
	}
	more := append(l[:len(l):len(l)], api.Token{Kind: 5})
	checkTokens(t, l, api.Fault{})
	checkTokens(t, more, api.Fault{Err: api.ErrLong})
	more[api.MaxTokens-1].Kind = 5
	checkTokens(t, more[:api.MaxTokens], api.Fault{})
	more[0].Kind = 5 // all is behind the end, but for this
	checkTokens(t, more, api.Fault{Err: api.ErrLong})
	checkTokens(t, more[:api.MaxTokens], api.Fault{Err: api.ErrEnd})
	checkTokens(t, make([]api.Token, api.MaxTokens), api.Fault{Err: api.ErrSyntax})
	checkTokens(t, make([]api.Token, api.MaxTokens+1), api.Fault{Err: api.ErrLong})
	checkTokens(t, make([]api.Token, 1<<20), api.Fault{Err: api.ErrLong})
}

func TestTokensKinds(t *testing.T) { // P502: a token of the right text and each other kind
	l := tokens(`syntax = "proto3"; package a.b; import "x"; message M { optional .N n = 2; map<string, int32> m = 3; oneof o { int32 c = 4; } reserved 5 to max, 7; reserved "q"; enum E { A = 0; B = -1; reserved -3 to -2; } }`)
	if _, bad := parse.Tokens(l); bad != (api.Fault{}) {
		t.Fatalf("P502: %+v", bad)
	}
	for i, tok := range l {
		for _, kind := range []int{-1, 0, 6, 9, 1 << 40, math.MinInt, math.MaxInt} {
			m := append([]api.Token(nil), l...)
			m[i].Kind = kind
			checkTokens(t, m, api.Fault{Err: api.ErrSyntax, At: tok.At})
		}
		for kind := 1; kind <= 4; kind++ {
			m := append([]api.Token(nil), l...)
			m[i].Kind = kind
			checkBoth(t, m)
		}
	}
	// What a word's text has, but is a sign, is no word; and so on.
	for _, c := range []struct {
		i, kind int
		text    string
	}{
		{0, 4, "syntax"}, {0, 3, "syntax"}, {1, 1, "="}, {2, 1, "proto3"}, {3, 1, ";"}, {3, 2, ";"}, {4, 4, "package"}, {5, 4, "a"}, {6, 1, "."}, {9, 4, "import"}, {12, 4, "message"}, {12, 3, "message"}, {14, 1, "{"},
	} {
		m := append([]api.Token(nil), l...)
		m[c.i] = api.Token{Kind: c.kind, At: -5, Text: c.text}
		checkTokens(t, m, api.Fault{Err: api.ErrSyntax, At: -5})
	}
}

func TestWord(t *testing.T) { // P503
	long := strings.Repeat("x", api.MaxName)
	for s, want := range map[string]bool{
		"a": true, "_": true, "a9": true, "message": true, "syntax": true, "max": true, "Z_9": true, long: true,
		"": false, "9": false, "9a": false, "a.b": false, ".a": false, "a ": false, " a": false, "é": false, "a\xff": false, "a-b": false, "'a'": false, "a\x00": false, long + "x": false,
	} {
		if parse.Word(s) != want {
			t.Errorf("P503: Word(%.20q) (%d bytes) = %v", s, len(s), !want)
		}
	}
	for c := range 256 {
		for _, s := range []string{string([]byte{byte(c)}), string([]byte{'a', byte(c)}), string([]byte{byte(c), 'a'})} {
			if parse.Word(s) != nameForm.MatchString(s) || parse.Word(s) != scan.Ident(s) {
				t.Errorf("P503: Word(%q) = %v", s, parse.Word(s))
			}
		}
	}
	for n := range 600 {
		if got := parse.Word(strings.Repeat("q", n)); got != (n >= 1 && n <= 255) {
			t.Errorf("P503: Word of %d letters = %v", n, got)
		}
	}
}

func TestFileDeclares(t *testing.T) { // P502: what a file declares, in its order
	checkFile(t, begin, api.File{})
	checkFile(t, "syntax='proto3';", api.File{})
	checkFile(t, `syntax = "\x70\162oto3";`, api.File{})
	checkFile(t, begin+";;; ; ;", api.File{})
	checkFile(t, begin+"package a;", api.File{Package: "a"})
	checkFile(t, begin+"package package.message.a_1.syntax;", api.File{Package: "package.message.a_1.syntax"})
	checkFile(t, begin+`import 'b'; import "a"; import 'b'; import "\xff\n"; import 'message';`, api.File{Imports: []string{"b", "a", "b", "\xff\n", "message"}})
	checkFile(t, begin+"message B {} enum F { X = 1; } message A {;} import 'z'; message B {;;} enum E { Y = 2; } package p; import 'y'; enum F { Z = 3; }", api.File{
		Package: "p", Imports: []string{"z", "y"}, Messages: []api.MessageDecl{{Name: "B"}, {Name: "A"}, {Name: "B"}},
		Enums: []api.EnumDecl{{Name: "F", Values: []api.EnumValue{{Name: "X", Number: 1}}}, {Name: "E", Values: []api.EnumValue{{Name: "Y", Number: 2}}}, {Name: "F", Values: []api.EnumValue{{Name: "Z", Number: 3}}}}})
}

func TestMessageDeclares(t *testing.T) { // P502: what a message declares, in its order
	checkFile(t, begin+"message M { a z = 3; oneof o { b y = 2; c x = 0; } d w = 2147483647; oneof p {; e v = 1;; } f u = 5; oneof o { g t = 6; } }", one(api.MessageDecl{
		Fields: []api.FieldDecl{
			{Card: 1, Type: "a", Name: "z", Number: 3}, {Card: 1, Type: "b", Name: "y", Number: 2, Oneof: 1}, {Card: 1, Type: "c", Name: "x", Oneof: 1}, {Card: 1, Type: "d", Name: "w", Number: 2147483647},
			{Card: 1, Type: "e", Name: "v", Number: 1, Oneof: 2}, {Card: 1, Type: "f", Name: "u", Number: 5}, {Card: 1, Type: "g", Name: "t", Number: 6, Oneof: 3}},
		Oneofs: []string{"o", "p", "o"}}))
	checkFile(t, begin+"message M { reserved 3; reserved 'b', 'a', 'b'; reserved 1 to 2, 2 to 2, 5 to max, 0x10 to 020; reserved \"c\"; reserved 536870911; }", one(api.MessageDecl{
		Reserved: []api.Range{{From: 3, To: 3}, {From: 1, To: 2}, {From: 2, To: 2}, {From: 5, To: 536870911}, {From: 16, To: 16}, {From: 536870911, To: 536870911}}, Gone: []string{"b", "a", "b", "c"}}))
	checkFile(t, begin+"message M { message B { int32 a = 1; message C { enum E { A = 0; } } } enum F { A = 1; } message A { oneof o { x y = 1; } reserved 1; } reserved 2; oneof q { x y = 2; } enum E { A = 2; } }", one(api.MessageDecl{
		Fields: []api.FieldDecl{{Card: 1, Type: "x", Name: "y", Number: 2, Oneof: 1}}, Oneofs: []string{"q"}, Reserved: []api.Range{{From: 2, To: 2}},
		Messages: []api.MessageDecl{
			{Name: "B", Fields: []api.FieldDecl{{Card: 1, Type: "int32", Name: "a", Number: 1}}, Messages: []api.MessageDecl{{Name: "C", Enums: []api.EnumDecl{{Name: "E", Values: []api.EnumValue{{Name: "A"}}}}}}},
			{Name: "A", Fields: []api.FieldDecl{{Card: 1, Type: "x", Name: "y", Number: 1, Oneof: 1}}, Oneofs: []string{"o"}, Reserved: []api.Range{{From: 1, To: 1}}}},
		Enums: []api.EnumDecl{{Name: "F", Values: []api.EnumValue{{Name: "A", Number: 1}}}, {Name: "E", Values: []api.EnumValue{{Name: "A", Number: 2}}}}}))
	checkFile(t, begin+"message M { .a.b.c d = 017; optional . a . b c = 0x1F; repeated a /**/ . b c = 1; map< .a.b , . c > d = 2; map<map, map.map> map = 3; .map map = 4; map.a b = 5; }", one(api.MessageDecl{Fields: []api.FieldDecl{
		{Card: 1, Type: ".a.b.c", Name: "d", Number: 15}, {Card: 2, Type: ".a.b", Name: "c", Number: 31}, {Card: 3, Type: "a.b", Name: "c", Number: 1}, {Card: 4, Key: ".a.b", Type: ".c", Name: "d", Number: 2},
		{Card: 4, Key: "map", Type: "map.map", Name: "map", Number: 3}, {Card: 1, Type: ".map", Name: "map", Number: 4}, {Card: 1, Type: "map.a", Name: "b", Number: 5}}}))
}

func TestEnumDeclares(t *testing.T) { // P502: what an enum declares, in its order
	checkFile(t, begin+"enum E { B = 5; ; A = 0; B = -0; reserved 1; C = -2147483648; reserved 'x'; reserved -2147483648 to max, -5, -1 to 0, 0 to 0, -3 to -3, 2147483647; reserved \"to\", 'max'; D = 2147483647; max = 1; to = 2; enum = 3; }", api.File{Enums: []api.EnumDecl{{
		Name:     "E",
		Values:   []api.EnumValue{{Name: "B", Number: 5}, {Name: "A"}, {Name: "B"}, {Name: "C", Number: -2147483648}, {Name: "D", Number: 2147483647}, {Name: "max", Number: 1}, {Name: "to", Number: 2}, {Name: "enum", Number: 3}},
		Reserved: []api.Range{{From: 1, To: 1}, {From: -2147483648, To: 2147483647}, {From: -5, To: -5}, {From: -1, To: 0}, {}, {From: -3, To: -3}, {From: 2147483647, To: 2147483647}},
		Gone:     []string{"x", "to", "max"}}}})
}

// special are the words that mean something somewhere.
const special = "syntax package import public weak message enum oneof reserved optional repeated map to max option service extend extensions group required stream rpc returns true inf"

func TestWordsAsNames(t *testing.T) { // P502: a word is a name wherever none is asked for
	for _, w := range strings.Fields(special) {
		checkFile(t, begin+"package "+w+";", api.File{Package: w})
		checkFile(t, begin+"package a."+w+";", api.File{Package: "a." + w})
		checkFile(t, begin+"message "+w+" {}", api.File{Messages: []api.MessageDecl{{Name: w}}})
		checkFile(t, begin+"enum "+w+" { A = 0; }", api.File{Enums: []api.EnumDecl{{Name: w, Values: []api.EnumValue{{Name: "A"}}}}})
		checkFile(t, begin+"message M { reserved '"+w+"'; }", one(api.MessageDecl{Gone: []string{w}}))
		checkFile(t, begin+"message M { oneof "+w+" { a b = 1; } }", one(api.MessageDecl{Oneofs: []string{w}, Fields: []api.FieldDecl{{Card: 1, Type: "a", Name: "b", Number: 1, Oneof: 1}}}))
		checkFile(t, begin+"message M { oneof o { a "+w+" = 1; } }", one(api.MessageDecl{Oneofs: []string{"o"}, Fields: []api.FieldDecl{{Card: 1, Type: "a", Name: w, Number: 1, Oneof: 1}}}))
		checkFile(t, begin+"message M { oneof o { ."+w+" b = 1; } }", one(api.MessageDecl{Oneofs: []string{"o"}, Fields: []api.FieldDecl{{Card: 1, Type: "." + w, Name: "b", Number: 1, Oneof: 1}}}))
		checkFile(t, begin+"message M { a "+w+" = 1; }", field(api.FieldDecl{Card: 1, Type: "a", Name: w, Number: 1}))
		checkFile(t, begin+"message M { ."+w+" b = 1; }", field(api.FieldDecl{Card: 1, Type: "." + w, Name: "b", Number: 1}))
		checkFile(t, begin+"message M { a."+w+" b = 1; }", field(api.FieldDecl{Card: 1, Type: "a." + w, Name: "b", Number: 1}))
		checkFile(t, begin+"message M { repeated ."+w+" b = 1; }", field(api.FieldDecl{Card: 3, Type: "." + w, Name: "b", Number: 1}))
		checkFile(t, begin+"message M { map<"+w+", "+w+"> "+w+" = 1; }", field(api.FieldDecl{Card: 4, Key: w, Type: w, Name: w, Number: 1}))
		if w != "group" {
			checkFile(t, begin+"message M { optional "+w+" b = 1; }", field(api.FieldDecl{Card: 2, Type: w, Name: "b", Number: 1}))
			checkFile(t, begin+"message M { repeated "+w+"."+w+" b = 1; }", field(api.FieldDecl{Card: 3, Type: w + "." + w, Name: "b", Number: 1}))
		}
		if !among(w, "message enum oneof reserved optional repeated option extend extensions group required") {
			checkFile(t, begin+"message M { "+w+" b = 1; }", field(api.FieldDecl{Card: 1, Type: w, Name: "b", Number: 1}))
			checkFile(t, begin+"message M { "+w+".a b = 1; }", field(api.FieldDecl{Card: 1, Type: w + ".a", Name: "b", Number: 1}))
		}
		if !among(w, "option group optional repeated required oneof message enum reserved") {
			checkFile(t, begin+"message M { oneof o { "+w+" b = 1; } }", one(api.MessageDecl{Oneofs: []string{"o"}, Fields: []api.FieldDecl{{Card: 1, Type: w, Name: "b", Number: 1, Oneof: 1}}}))
		}
		if !among(w, "option reserved") {
			checkFile(t, begin+"enum E { "+w+" = 0; }", api.File{Enums: []api.EnumDecl{{Name: "E", Values: []api.EnumValue{{Name: w}}}}})
		}
	}
}

// among says whether a word is one of those.
func among(w, l string) bool { return strings.Contains(" "+l+" ", " "+w+" ") }
