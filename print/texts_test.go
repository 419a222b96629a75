package print_test

import (
	"fmt"
	"slices"
	"strings"
	"testing"

	"sigil/api"
	"sigil/parse"
	"sigil/print"
	"sigil/scan"
)

// checkTexts looks that Format and Canon of a text tell what they must, and of what they told the same.
func checkTexts(t *testing.T, text, format, canon string) {
	t.Helper()
	for _, c := range []struct {
		name string
		call func(string) (string, api.Fault)
		text string
		want string
	}{
		{"P606: Format", print.Format, text, format}, {"P606: Canon", print.Canon, text, canon},
		{"P607: Format of Format", print.Format, format, format}, {"P607: Canon of Canon", print.Canon, canon, canon}, {"P607: Canon of Format", print.Canon, format, canon}, {"P607: Format of Canon", print.Format, canon, canon},
	} {
		if s, bad := c.call(c.text); s != c.want || bad != (api.Fault{}) {
			t.Errorf("%s of\n%s\nis %v\n%s\nwant\n%s", c.name, c.text, bad, s, c.want)
		}
	}
}

// checkRefused looks that a call refuses a text so.
func checkRefused(t *testing.T, name string, call func(string) (string, api.Fault), text string, want api.Fault) {
	t.Helper()
	if s, bad := call(text); s != "" || bad != want {
		t.Errorf("P606, P4: %s of %.60q: %.60q, %v, want %v", name, text, s, bad, want)
	}
}

func TestFormat(t *testing.T) { // P606
	checkTexts(t, compact, formatted, sorted)
	checkTexts(t, "syntax='proto3';", begin, begin)
	checkTexts(t, "/**/ syntax\n=\t\"\\x70\\162oto3\" ; // end", begin, begin)
	checkTexts(t, begin+"enum B{Z=0x0;Y=-017;X=0X1f;}message C{enum E{Z=00;}message D{}a b=010;}import 'y';package\na . b;enum A{Z=0;}message B{}import\"x\";",
		begin+"package a.b;\nimport \"y\";\nimport \"x\";\nmessage C {\n  a b = 8;\n  message D {\n  }\n  enum E {\n    Z = 0;\n  }\n}\nmessage B {\n}\nenum B {\n  Z = 0;\n  Y = -15;\n  X = 31;\n}\nenum A {\n  Z = 0;\n}\n",
		begin+"package a.b;\nimport \"x\";\nimport \"y\";\nmessage B {\n}\nmessage C {\n  a b = 8;\n  message D {\n  }\n  enum E {\n    Z = 0;\n  }\n}\nenum A {\n  Z = 0;\n}\nenum B {\n  Z = 0;\n  Y = -15;\n  X = 31;\n}\n")
	checkTexts(t, begin+"message M{reserved 4;a b=1;reserved'x';reserved 2 to 2,0x3;reserved\"\\141\",'b';reserved 536870911 to max,9 to 536870911;}",
		begin+"message M {\n  reserved 4, 2, 3, 536870911, 9 to max;\n  reserved \"x\", \"a\", \"b\";\n  a b = 1;\n}\n",
		begin+"message M {\n  reserved 2 to 4, 9 to max, 536870911;\n  reserved \"a\", \"b\", \"x\";\n  a b = 1;\n}\n")
	checkTexts(t, begin+"enum E{reserved -0,-1;A=-0;reserved-2147483648 to max,2147483647 to max;}",
		begin+"enum E {\n  reserved 0, -1, -2147483648 to max, 2147483647;\n  A = 0;\n}\n",
		begin+"enum E {\n  reserved -2147483648 to max, -1 to 0, 2147483647;\n  A = 0;\n}\n")
	checkTexts(t, begin+"import'\\0\\a\\x80é\\'\";';", begin+"import \"\\000\\007\\200é'\\\";\";\n", begin+"import \"\\000\\007\\200é'\\\";\";\n")
	checkTexts(t, begin+"message M{oneof p{a b=2;}oneof o{.a.b c=1;;map d=0;}map<a,.b>e=3;optional optional optional=4;map f=5;repeated.a g=6;}",
		begin+"message M {\n  oneof p {\n    a b = 2;\n  }\n  oneof o {\n    .a.b c = 1;\n    map d = 0;\n  }\n  map<a, .b> e = 3;\n  optional optional optional = 4;\n  map f = 5;\n  repeated .a g = 6;\n}\n",
		begin+"message M {\n  oneof o {\n    map d = 0;\n    .a.b c = 1;\n  }\n  oneof p {\n    a b = 2;\n  }\n  map<a, .b> e = 3;\n  optional optional optional = 4;\n  map f = 5;\n  repeated .a g = 6;\n}\n")
}

func TestFormatFaults(t *testing.T) { // P606: the faults of parse, with their places
	for text, want := range map[string]api.Fault{
		"": {Err: api.ErrEnd}, "syntax": {Err: api.ErrEnd, At: 6}, "syntax = 'proto2';": {Err: api.ErrSyntax, At: 9}, "message M {}": {Err: api.ErrSyntax}, "syntax = \"proto3\"": {Err: api.ErrEnd, At: 17},
		begin + "service S {}": {Err: api.ErrWord, At: 19}, begin + "import public \"x\";": {Err: api.ErrWord, At: 26}, begin + "message M { int32 a = 1 [deprecated = true]; }": {Err: api.ErrWord, At: 43}, begin + "message M { oneof o { } }": {Err: api.ErrSyntax, At: 41},
		begin + "message M { reserved 5 to 4; }": {Err: api.ErrRange, At: 45}, begin + "message M { int32 a = 4294967296; }": {Err: api.ErrRange, At: 41}, begin + "enum E { }": {Err: api.ErrSyntax, At: 28}, begin + "enum E { A = 2147483648; }": {Err: api.ErrRange, At: 32},
		begin + "#": {Err: api.ErrChar, At: 19}, begin + "09": {Err: api.ErrDigits, At: 19}, begin + "'": {Err: api.ErrString, At: 19}, begin + "/*": {Err: api.ErrComment, At: 19}, "\xff": {Err: api.ErrCoding}, begin + "// \xc3": {Err: api.ErrCoding, At: 22},
		begin + "package " + long + ";": {Err: api.ErrLong, At: 27}, begin + "import '" + long + "';": {Err: api.ErrLong, At: 26}, begin + "import '';": {Err: api.ErrSyntax, At: 26},
		begin + strings.Repeat("message M { ", 33): {Err: api.ErrNest, At: 19 + 32*12}, begin + strings.Repeat("import 'a';", 4097): {Err: api.ErrDecls, At: 19 + 4096*11},
		begin + strings.Repeat(";", 16384): {Err: api.ErrTokens, At: 19 + 16379}, begin + strings.Repeat(" ", 65536): {Err: api.ErrLong},
	} {
		if _, bad := parse.Parse(text); bad != want {
			t.Fatalf("%.60q: %v, not %v", text, bad, want)
		}
		checkRefused(t, "Format", print.Format, text, want)
		checkRefused(t, "Canon", print.Canon, text, want)
	}
	for i := range compact { // each front of a text
		_, bad := parse.Parse(compact[:i])
		if bad.Err == api.OK {
			continue
		}
		checkRefused(t, "Format", print.Format, compact[:i], bad)
		checkRefused(t, "Canon", print.Canon, compact[:i], bad)
	}
}

// squeezed is a text without comments, with as few blanks as may be, however long it is.
func squeezed(text string) string {
	isWord := func(s string) bool { return strings.ContainsAny(s[:1], "_0123456789") || wordForm.MatchString(s) }
	var b strings.Builder
	last := ";"
	for _, s := range tokenForm.FindAllString(text, -1) {
		if isWord(last) && isWord(s) {
			b.WriteByte(' ')
		}
		b.WriteString(s)
		last = s
	}
	return b.String()
}

func TestFormatLong(t *testing.T) { // P606: texts that come out of MaxText bytes, and one more
	for n := api.MaxText - 3; n <= api.MaxText+3; n++ {
		f := padded(whole(), n)
		text := squeezed(modelText(f))
		if g, bad := parse.Parse(text); bad != (api.Fault{}) || !same(f, g) {
			t.Fatalf("%d: %v", n, bad)
		}
		if n > api.MaxText {
			checkRefused(t, "Format", print.Format, text, api.Fault{Err: api.ErrLong})
			checkRefused(t, "Canon", print.Canon, text, api.Fault{Err: api.ErrLong})
		} else {
			checkTexts(t, text, modelText(f), modelText(modelSorted(f)))
		}
	}
	// The chapter's fifth example: a text of MaxText bytes that is longer when it is written anew.
	text := begin + strings.Repeat("import'a';", 4096)
	text += strings.Repeat(" ", api.MaxText-len(text))
	if s, bad := print.Canon(text); bad != (api.Fault{}) || len(s) != len(begin)+12*4096 {
		t.Errorf("P606: %d bytes, %v", len(s), bad)
	}
	text = begin + strings.Repeat("import'"+strings.Repeat("\x01", 40)+"';", 500)
	text += strings.Repeat(" ", api.MaxText-len(text))
	checkRefused(t, "Canon", print.Canon, text, api.Fault{Err: api.ErrLong})
	checkRefused(t, "Format", print.Format, text, api.Fault{Err: api.ErrLong})
}

func TestCanonLong(t *testing.T) { // P606: joined rows make a text longer, or shorter
	var pairs, row []api.Range
	for n := 1; len(pairs) < 200; n += 3 { // `n, n+1` becomes `n to n+1`
		pairs = append(pairs, api.Range{From: n, To: n}, api.Range{From: n + 1, To: n + 1})
	}
	for n := 1; n <= 1000; n++ { // all of it becomes `1 to 1000`
		row = append(row, api.Range{From: n, To: n})
	}
	for _, spare := range []int{0, 1, 199, 200, 201} {
		f := padded(inMessage(api.MessageDecl{Reserved: pairs}), api.MaxText-spare)
		text := modelText(f)
		if s, bad := print.Format(text); s != text || bad != (api.Fault{}) {
			t.Errorf("P606: Format: %v", bad)
		}
		if spare < 200 {
			checkRefused(t, "Canon", print.Canon, text, api.Fault{Err: api.ErrLong})
		} else {
			checkTexts(t, text, text, modelText(modelSorted(f)))
		}
	}
	for _, over := range []int{0, 1, 300} {
		f := padded(inMessage(api.MessageDecl{Reserved: row}), api.MaxText+over)
		text := squeezed(modelText(f))
		if over == 0 {
			checkTexts(t, text, modelText(f), modelText(modelSorted(f)))
		} else { // Sorted refuses it, though what it would tell were not too long
			checkRefused(t, "Canon", print.Canon, text, api.Fault{Err: api.ErrLong})
		}
	}
}

// rough is a text with other blanks, comments and empty statements.
func (k *maker) rough(text string) string {
	l, _, _ := scan.Tokens(text)
	var b strings.Builder
	gap := func(need bool) {
		for need || k.some(2) == 0 {
			b.WriteString(k.one(" ", "\n", "\t", "\r\n", "\v\f", "/**/", "// ; }\n", "/* message M { // */", "//\n", "/* é\n* / */"))
			need = false
		}
	}
	for i, t := range l[:len(l)-1] {
		gap(i > 0 && l[i-1].Kind != api.TokSign && t.Kind != api.TokSign)
		b.WriteString(t.Text)
		for t.Kind == api.TokSign && slices.Contains([]string{";", "{", "}"}, t.Text) && k.some(3) == 0 {
			gap(false)
			b.WriteByte(';')
		}
	}
	gap(false)
	return b.String()
}

func TestRough(t *testing.T) { // P607: blanks, comments and empty statements change nothing
	for seed := range int64(600) {
		k := newMaker(seed)
		f := k.file()
		text := modelText(f)
		checkTexts(t, text, text, modelText(modelSorted(f)))
		for range 3 {
			checkTexts(t, k.rough(text), text, modelText(modelSorted(f)))
		}
		if k.once {
			other := modelText(k.shuffled(f))
			checkTexts(t, k.rough(other), other, modelText(modelSorted(f)))
		}
		if t.Failed() {
			return
		}
	}
	for _, text := range []string{compact, formatted, sorted, modelText(whole())} {
		f, _ := parse.Parse(text)
		for seed := range int64(20) {
			checkTexts(t, newMaker(seed).rough(text), modelText(f), modelText(modelSorted(f)))
		}
		checkTexts(t, squeezed(text), modelText(f), modelText(modelSorted(f)))
	}
}

func TestCanonIsOne(t *testing.T) { // P605, P606: what is declared, however it was written, has one text
	want := "message M {\n  reserved 5 to 7, 9;\n  reserved \"a\", \"b\";\n  int32 a = 1;\n  oneof o {\n    int32 b = 2;\n    int32 c = 4;\n  }\n  int32 d = 3;\n}\n"
	members := []string{"reserved 5, 7, 9;", "reserved 6;", "reserved 'b';", "reserved 'a';", "oneof o { int32 c = 4; int32 b = 2; }", "int32 d = 3;", "int32 a = 1;"}
	for i := range 5040 { // all orders
		left := slices.Clone(members)
		var l []string
		for n := len(left); n > 0; n-- {
			at := i % n
			i /= n
			l = append(l, left[at])
			left = slices.Delete(left, at, at+1)
		}
		text := fmt.Sprintf("%smessage M { %s }", begin, strings.Join(l, " "))
		if s, bad := print.Canon(text); s != begin+want || bad != (api.Fault{}) {
			t.Fatalf("P605, P606: Canon of %s is %v\n%s", text, bad, s)
		}
	}
}
