package print_test

import (
	"fmt"
	"slices"
	"strings"
	"testing"

	"sigil/api"
	"sigil/parse"
	"sigil/print"
)

// checkSorted looks that the declarations of one text, sorted, are those of another; and that these stay as they are.
func checkSorted(t *testing.T, text, want string) {
	t.Helper()
	f, bad := parse.Parse(begin + text)
	g, worse := parse.Parse(begin + want)
	if bad != (api.Fault{}) || worse != (api.Fault{}) {
		t.Fatalf("%s: %v; %s: %v", text, bad, want, worse)
	}
	if h, e := print.Sorted(f); e != api.OK || !same(h, g) {
		t.Errorf("P604: Sorted of\n%s\nis %v\n%s\nwant\n%s", text, e, modelText(h), modelText(g))
	}
	if h, e := print.Sorted(g); e != api.OK || !same(h, g) {
		t.Errorf("P605: Sorted of what Sorted told,\n%s\nis %v\n%s", want, e, modelText(h))
	}
	checkRight(t, text, f, api.OK)
}

func TestSorted(t *testing.T) { // P604: each kind of list
	checkSorted(t, "import 'b'; import 'a'; import 'B'; import '\\xff'; import 'é'; import 'aa'; import '_'; import 'b';", "import 'B'; import '_'; import 'a'; import 'aa'; import 'b'; import 'b'; import 'é'; import '\\xff';")
	checkSorted(t, "package z.a; message b { } message a { } message B { } message _ { } message aa { } message a1 { }", "package z.a; message B { } message _ { } message a { } message a1 { } message aa { } message b { }")
	checkSorted(t, "enum b { Z = 0; } enum a { Z = 0; } enum B { Z = 0; }", "enum B { Z = 0; } enum a { Z = 0; } enum b { Z = 0; }")
	checkSorted(t, "message M { reserved 'b', 'a', 'A', 'b', 'aa'; }", "message M { reserved 'A', 'a', 'aa', 'b', 'b'; }")
	checkSorted(t, "enum E { Z = 0; reserved 'b', 'a', 'A', 'b', 'aa'; }", "enum E { Z = 0; reserved 'A', 'a', 'aa', 'b', 'b'; }")
	checkSorted(t, "message M { message C { } message B { message E { } message D { } enum G { Z = 0; } enum F { B = 1; A = 0; } } }", "message M { message B { message D { } message E { } enum F { A = 0; B = 1; } enum G { Z = 0; } } message C { } }")
	checkSorted(t, "enum E { A = 3; B = 0; C = -1; D = 1; F = -2147483648; G = 2147483647; H = 10; }", "enum E { B = 0; F = -2147483648; C = -1; D = 1; A = 3; H = 10; G = 2147483647; }")
	checkSorted(t, "enum E { A = -1; B = 1; C = 2; }", "enum E { A = -1; B = 1; C = 2; }")
	checkSorted(t, "message M { a b = 10; a c = 9; a d = 0; optional a e = 2147483647; repeated a f = 1; map<a, b> g = 5; }", "message M { a d = 0; repeated a f = 1; map<a, b> g = 5; a c = 9; a b = 10; optional a e = 2147483647; }")
}

func TestSortedAlike(t *testing.T) { // P604: those that are alike stay in the order in which they were
	checkSorted(t, "message M { a b = 1; } message L { } message M { } message M { a a = 1; } message L { a z = 1; }", "message L { } message L { a z = 1; } message M { a b = 1; } message M { } message M { a a = 1; }")
	checkSorted(t, "enum E { B = 0; } enum D { X = 0; } enum E { A = 0; } enum D { W = 0; }", "enum D { X = 0; } enum D { W = 0; } enum E { B = 0; } enum E { A = 0; }")
	checkSorted(t, "message M { c z = 2; b y = 1; a x = 2; d w = 1; a z = 2; }", "message M { b y = 1; d w = 1; c z = 2; a x = 2; a z = 2; }")
	checkSorted(t, "enum E { D = 1; C = 0; B = 1; A = 0; F = -1; E = 0; G = -1; }", "enum E { C = 0; A = 0; E = 0; F = -1; G = -1; D = 1; B = 1; }")
	var b, c []string // many, so that a sort that is not stable shows
	for i := range 200 {
		b = append(b, fmt.Sprintf("A%d = %d;", i, i%3))
		c = append(c, fmt.Sprintf("message M { t a%d = 1; }", i))
	}
	var rising []string
	for n := range 3 {
		for i := n; i < 200; i += 3 {
			rising = append(rising, b[i])
		}
	}
	checkSorted(t, "enum E { "+strings.Join(b, "")+" }", "enum E { "+strings.Join(rising, "")+" }")
	checkSorted(t, strings.Join(c, "")+"message L { }", "message L { }"+strings.Join(c, ""))
}

func TestSortedOneofs(t *testing.T) { // P604: blocks, their fields, the order of oneofs
	checkSorted(t, "message M { oneof o { a b = 3; a c = 1; } a d = 2; }", "message M { oneof o { a c = 1; a b = 3; } a d = 2; }")
	checkSorted(t, "message M { a d = 2; oneof o { a b = 3; a c = 1; } }", "message M { oneof o { a c = 1; a b = 3; } a d = 2; }")
	checkSorted(t, "message M { a d = 2; oneof o { a b = 3; a c = 4; } a e = 1; }", "message M { a e = 1; a d = 2; oneof o { a b = 3; a c = 4; } }")
	checkSorted(t, "message M { oneof o { a b = 9; a c = 5; } oneof p { a d = 6; } oneof q { a e = 7; a f = 4; } }", "message M { oneof q { a f = 4; a e = 7; } oneof o { a c = 5; a b = 9; } oneof p { a d = 6; } }")
	checkSorted(t, "message M { oneof b { a b = 2; } oneof a { a c = 3; } oneof a { a d = 1; } }", "message M { oneof a { a d = 1; } oneof b { a b = 2; } oneof a { a c = 3; } }")
	checkSorted(t, "message M { oneof o { a b = 1; } oneof p { a c = 1; } a d = 1; oneof q { a e = 1; a f = 1; } }", "message M { oneof o { a b = 1; } oneof p { a c = 1; } a d = 1; oneof q { a e = 1; a f = 1; } }")
	checkSorted(t, "message M { a d = 1; oneof q { a e = 2; a f = 1; } oneof p { a c = 1; a b = 0; } a g = 0; }", "message M { oneof p { a b = 0; a c = 1; } a g = 0; a d = 1; oneof q { a f = 1; a e = 2; } }")
	checkSorted(t, "message M { oneof z { c b = 2; b c = 2; a d = 1; d e = 2; } }", "message M { oneof z { a d = 1; c b = 2; b c = 2; d e = 2; } }")
}

func TestSortedRows(t *testing.T) { // P604: by From, then To; neighbours are joined from the left
	for rows, want := range map[string]string{
		"1": "1", "2, 1": "1 to 2", "1, 1": "1, 1", "3, 1": "1, 3", "1, 2, 3": "1 to 3", "3, 2, 1": "1 to 3", "5, 6, 9 to max": "5 to 6, 9 to max",
		"4 to 6, 1 to 3": "1 to 6", "1 to 3, 3 to 5": "1 to 3, 3 to 5", "3 to 5, 1 to 3": "1 to 3, 3 to 5", "1 to 5, 2 to 3": "1 to 5, 2 to 3", "1 to 5, 2 to 3, 4, 6": "1 to 5, 2 to 4, 6",
		"2 to 5, 1, 2 to 3": "1 to 3, 2 to 5", "1, 1, 2": "1, 1 to 2", "1, 1, 2, 2": "1, 1 to 2, 2", "1 to 2, 1": "1, 1 to 2", "1 to 2, 1, 2": "1, 1 to 2, 2", "1 to 2, 1, 3": "1, 1 to 3",
		"536870911, 536870910": "536870910 to max", "536870911": "536870911", "10 to max, 9": "9 to max", "1 to 536870910, 536870911": "1 to max", "7, 9, 8, 11": "7 to 9, 11", "1 to 2, 4 to 5, 3": "1 to 5",
	} {
		checkSorted(t, "message M { reserved "+rows+"; }", "message M { reserved "+want+"; }")
		rows = strings.NewReplacer("max", "536870911").Replace(rows)
		want = strings.NewReplacer("max", "536870911").Replace(want)
		checkSorted(t, "enum E { Z = 0; reserved "+rows+"; }", "enum E { Z = 0; reserved "+want+"; }")
	}
	for rows, want := range map[string]string{
		"1, 0, -1": "-1 to 1", "-1, -3, -2": "-3 to -1", "-5 to -2, -1 to 4": "-5 to 4", "2147483647, 2147483646": "2147483646 to max", "0 to max, -1": "-1 to max", "-2147483648, -2147483647 to max": "-2147483648 to max", "2147483647, -2147483648": "-2147483648, 2147483647", "10, 9, -1": "-1, 9 to 10",
		"7, -5 to -2, 8 to max, 2147483647": "-5 to -2, 7 to max, 2147483647",
	} {
		checkSorted(t, "enum E { Z = 0; reserved "+rows+"; }", "enum E { Z = 0; reserved "+want+"; }")
	}
}

// eachRow calls f with every list of n rows within 1 to most.
func eachRow(n, most int, l []api.Range, f func([]api.Range)) {
	if n == 0 {
		f(l)
		return
	}
	for from := 1; from <= most; from++ {
		for to := from; to <= most; to++ {
			eachRow(n-1, most, append(l[:len(l):len(l)], api.Range{From: from, To: to}), f)
		}
	}
}

// apart says whether rows have no number in common.
func apart(l []api.Range) bool {
	there := map[int]bool{}
	for _, r := range l {
		for n := r.From; n <= r.To; n++ {
			if there[n] {
				return false
			}
			there[n] = true
		}
	}
	return true
}

func TestSortedRowsAll(t *testing.T) { // P604, P605: all lists of a few rows
	for n := 0; n <= 4; n++ {
		one := map[string][]api.Range{} // of rows apart: what those of the same numbers, in any order, come to
		eachRow(n, 4, nil, func(l []api.Range) {
			g, e := print.Sorted(inMessage(api.MessageDecl{Reserved: l}))
			if e != api.OK || len(g.Messages) != 1 || !slices.Equal(g.Messages[0].Reserved, modelRows(l)) {
				t.Fatalf("P604: Sorted of the rows %v: %v, %v, want %v", l, e, g, modelRows(l))
			}
			got := g.Messages[0].Reserved
			if again, e := print.Sorted(g); e != api.OK || !same(again, g) {
				t.Fatalf("P605: Sorted of the rows %v, which Sorted told: %v, %v", got, e, again)
			}
			if !apart(l) {
				return
			}
			rising := slices.Clone(l)
			slices.SortFunc(rising, func(a, b api.Range) int { return a.From - b.From })
			key := fmt.Sprint(rising)
			if want, there := one[key]; there && !slices.Equal(got, want) {
				t.Fatalf("P605: Sorted of the rows %v: %v, in another order %v", l, got, want)
			}
			one[key] = got
		})
	}
}

func TestSortedFieldsAll(t *testing.T) { // P604, P605: all ways in which four fields are in oneofs, with all numbers of a few
	for _, way := range texts(4, "0", "1", "2") {
		for numbers := range 81 {
			var l []api.FieldDecl
			for i, c := range way {
				l = append(l, api.FieldDecl{Card: 1, Type: "T", Name: string(rune('a' + i)), Number: numbers / []int{1, 3, 9, 27}[i] % 3, Oneof: int(c - '0')})
			}
			m := api.MessageDecl{Fields: l}
			if strings.Contains(way, "1") {
				m.Oneofs = []string{"o"}
			}
			if strings.Contains(way, "2") {
				m.Oneofs = []string{"o", "p"}
			}
			f := inMessage(m)
			if modelRight(f) != api.OK {
				continue
			}
			checkRight(t, fmt.Sprint(way, numbers), f, api.OK)
			g, _ := print.Sorted(f)
			if h, e := print.Sorted(g); e != api.OK || !same(g, h) {
				t.Errorf("P605: %s, %d: %v, %+v", way, numbers, e, h)
			}
		}
	}
}

func TestSortedRight(t *testing.T) { // P604: what Sorted tells is right, but for its length
	for seed := range int64(500) {
		k := newMaker(seed)
		g, e := print.Sorted(k.file())
		if e != api.OK || len(modelWrongs(g)) > 0 || print.Right(g) != api.OK {
			t.Errorf("P604: Sorted: %v, %v", e, modelWrongs(g))
		}
	}
}

func TestSortedTooLong(t *testing.T) { // P604, P605: rows that are joined may make a text that is too long
	var rows []api.Range
	for n := 1; len(rows) < 1000; n += 3 { // a pair `n, n+1` becomes `n to n+1`, two bytes longer
		rows = append(rows, api.Range{From: n, To: n}, api.Range{From: n + 1, To: n + 1})
	}
	for _, spare := range []int{0, 1, 999, 1000, 1001} {
		g := padded(inMessage(api.MessageDecl{Reserved: rows}), api.MaxText-spare)
		h, e := print.Sorted(g)
		if e != api.OK || !same(h, modelSorted(g)) || len(modelText(h)) != api.MaxText-spare+1000 {
			t.Fatalf("P604: %d spare: %v", spare, e)
		}
		again, e := print.Sorted(h)
		if spare < 1000 && (e != api.ErrLong || !same(again, api.File{})) || spare >= 1000 && (e != api.OK || !same(again, h)) {
			t.Errorf("P605: a text of %d bytes: Sorted again is %v", len(modelText(h)), e)
		}
	}
}
