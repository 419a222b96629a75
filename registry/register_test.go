package registry_test

import (
	"fmt"
	"strings"
	"testing"

	"sigil/api"
)

func TestRegisterErrors(t *testing.T) { // P1801, P1802: each error of the subject, the files and the name, and of two the first
	x := fresh(t)
	many := make([]api.Source, api.MaxFiles+1)
	for _, there := range []bool{false, true} {
		for _, subject := range []string{"s", "t", long(255)} {
			x.refuses(subject, many, "M", api.ErrLong)
			x.refuses(subject, []api.Source{{Text: proto}}, "M", api.ErrName)
			x.refuses(subject, []api.Source{{Name: long(256), Text: proto}}, "M", api.ErrLong)
			x.refuses(subject, append(src(""), src("")...), "M", api.ErrTwice)
			x.refuses(subject, []api.Source{{Name: "a", Text: strings.Repeat(" ", api.MaxText+1)}}, "M", api.ErrLong)
			x.refuses(subject, src("x"), "M", api.ErrSyntax)
			x.refuses(subject, src("message"), long(256), api.ErrEnd)
			x.refuses(subject, src(`import "b"; message M { }`), "", api.ErrImport)
			x.refuses(subject, src("message M { N n = 1; }"), "M", api.ErrUnknown)
			x.refuses(subject, src("message M { int32 a = 1; int32 b = 1; }"), "N", api.ErrFieldNumber)
			x.refuses(subject, fileA, long(256), api.ErrLong)
			x.refuses(subject, fileA, long(255), api.ErrName)
			x.refuses(subject, fileA, "", api.ErrName)
			x.refuses(subject, fileA, "N", api.ErrName)
			x.refuses(subject, fileA, ".M", api.ErrName)
			x.refuses(subject, src("message M { } enum E { Z = 0; }"), "E", api.ErrName)
			x.refuses(subject, src("package p; message M { }"), "M", api.ErrName)
			x.refuses(subject, nil, "M", api.ErrName)
			x.refuses(subject, []api.Source{}, long(256), api.ErrLong)
		}
		// The subject is looked at ahead of all else.
		for _, files := range [][]api.Source{fileA, many, src("x"), nil} {
			for _, name := range []string{"M", "N", "", long(256)} {
				x.refuses("", files, name, api.ErrSubject)
				x.refuses(long(256), files, name, api.ErrLong)
				x.refuses(long(1000), files, name, api.ErrLong)
			}
		}
		if there {
			break
		}
		x.registers("s", fileA, "M", 1, api.OK)
	}
	// What does not load, and what has no such type, is told ahead of what the rule refuses.
	x.refuses("s", src("message M { string a = 1; string b = 1; }"), "M", api.ErrFieldNumber)
	x.refuses("s", fileC, "N", api.ErrName)
	x.breaks("s", fileC, "M", api.Break{Rule: api.BType, Path: []int{1}, Old: "M", New: "M"})
	x.alike()
}

func TestSubjects(t *testing.T) { // P1801, P1804: subjects of any bytes, of one and of MaxName
	x := fresh(t)
	l := []string{"\x00", "\x00\x00", "a", "a\x00", "b", "\xff", "\xff\xfe", " ", "é", "\xc3", "s\ns", long(254), long(255), strings.Repeat("\xff", 255), "sigregs\x01"}
	for i, name := range l {
		x.registers(name, src(fmt.Sprintf("message M { int32 a%d = 1; }", i/2)), "M", 1, api.OK)
	}
	for i, name := range l {
		x.registers(name, src(fmt.Sprintf("message M { int32 a%d = 1; }", i/2)), "M", 1, api.OK)
		x.registers(name, src(fmt.Sprintf("message M { int32 b%d = 1; }", i)), "M", 2, api.OK)
		x.rules(name, i%7, api.OK)
	}
	for i, name := range l {
		x.drops(name, 1+i%2, api.OK)
		x.reads(name, 1+i%2, 2-i%2, []byte{8, 1}, msg(at(1, num(1))), api.OK)
	}
	x.alike()
	x.again()
}

func TestVersions(t *testing.T) { // P1801: numbers rise from 1 on, and are not used again
	x := fresh(t)
	at := func(n int) []api.Source { return src(fmt.Sprintf("message M { int32 a%d = 1; }", n)) }
	for i := range 5 {
		x.registers("s", at(i), "M", i+1, api.OK)
	}
	x.drops("s", 5, api.OK)
	x.drops("s", 2, api.OK)
	x.registers("s", at(4), "M", 6, api.OK) // it was dropped: it comes again with a new number
	x.registers("s", at(4), "M", 6, api.OK)
	x.registers("s", at(1), "M", 7, api.OK)
	x.registers("s", at(0), "M", 1, api.OK)
	x.drops("s", 6, api.OK)
	x.registers("s", at(4), "M", 8, api.OK)
	x.registers("t", at(4), "M", 1, api.OK)
	for i := range 8 {
		if i+1 == 5 || i+1 == 2 || i+1 == 6 {
			x.drops("s", i+1, api.ErrGone)
			continue
		}
		x.drops("s", i+1, api.OK)
	}
	x.registers("s", at(0), "M", 9, api.OK)
	x.alike()
	x.again()
}

func TestSameSchema(t *testing.T) { // P1801: the same print and the same type are one version, the same print alone is not
	x := fresh(t)
	both := src("message M { int32 a = 1; } message N { int64 a = 1; } message O { string a = 1; }")
	x.registers("s", both, "M", 1, api.OK)
	x.registers("s", both, "N", 2, api.OK)
	x.breaks("s", both, "O", api.Break{Rule: api.BType, Path: []int{1}, Old: "N", New: "O"})
	x.registers("s", both, "M", 1, api.OK)
	x.registers("s", both, "N", 2, api.OK)
	// The same type of another schema.
	more := src("message M { int32 a = 1; } message N { int64 a = 1; }")
	x.registers("s", more, "N", 3, api.OK)
	x.breaks("s", more, "M", api.Break{Rule: api.BType, Path: []int{1}, Old: "N", New: "M"})
	x.drops("s", 1, api.OK)
	x.drops("s", 2, api.OK)
	x.drops("s", 3, api.OK)
	x.registers("s", both, "O", 4, api.OK)
	x.breaks("s", both, "M", api.Break{Rule: api.BType, Path: []int{1}, Old: "O", New: "M"})
	x.rules("s", api.RNone, api.OK)
	x.registers("s", both, "M", 5, api.OK)
	x.registers("s", both, "O", 4, api.OK)
	x.alike()
	x.again()
}

// written are sources that all declare the same, with blanks, comments, orders and files of their own.
var written = [][]api.Source{
	{
		{Name: "a", Text: proto + `package p; import "b"; message M { int32 a = 1; q.N n = 2; oneof o { string s = 3; E e = 4; } reserved 9, 10; reserved "x", "y"; enum E { Z = 0; A = 1; } } message K { }`},
		{Name: "b", Text: proto + `package q; import "a"; message N { repeated p.M.E l = 1; map<string, p.M> m = 2; }`},
	},
	{ // blanks and comments
		{Name: "a", Text: "syntax='proto3';package p;import'b';message M{;int32 a=0x1;q.N n=2;oneof o{string s=3;E e=4;}reserved 9,10;reserved'x','y';enum E{Z=0;A=1;}}message K{}"},
		{Name: "b", Text: "// one\n" + proto + "/* two */ package\nq;\timport \"a\" ; message N { repeated p . M . E l = 1; // three\n map < string , p.M > m = 2 ; } ;;"},
	},
	{ // other names of the sources, in another order
		{Name: "x/y.proto", Text: proto + `package q; import "x/z.proto"; message N { repeated p.M.E l = 1; map<string, p.M> m = 2; }`},
		{Name: "x/z.proto", Text: proto + `import "x/y.proto"; package p; message M { int32 a = 1; q.N n = 2; oneof o { string s = 3; E e = 4; } reserved 9, 10; reserved "x", "y"; enum E { Z = 0; A = 1; } } message K { }`},
	},
	{ // declarations in another order, ranges otherwise
		{Name: "b", Text: proto + `package q; import "a"; message N { map<string, .p.M> m = 2; repeated .p.M.E l = 1; }`},
		{Name: "a", Text: proto + `package p; import "b"; message K { } message M { enum E { Z = 0; A = 1; } reserved "y"; reserved 10; oneof o { E e = 4; string s = 3; } reserved 9; .q.N n = 2; reserved "x"; int32 a = 1; }`},
	},
	{ // spread over more files, with some that declare nothing
		{Name: "none", Text: proto},
		{Name: "k", Text: proto + `package p; message K { }`},
		{Name: "m", Text: proto + `package p; import "n"; import "none"; message M { int32 a = 1; q.N n = 2; oneof o { string s = 3; .p.M.E e = 4; } reserved 9 to 10; reserved "x", "y"; enum E { Z = 0; A = 1; } }`},
		{Name: "n", Text: proto + `package q; import "m"; import "k"; message N { repeated p.M.E l = 1; map<string, p.M> m = 2; }`},
	},
}

func TestWrittenOtherwise(t *testing.T) { // P1811: what is living already appends nothing, however it is written
	for i, first := range written {
		x := fresh(t)
		x.registers("s", first, "p.M", 1, api.OK)
		x.rules("s", api.RFullAll, api.OK)
		log := x.r.Log()
		for _, files := range append(written, load(t, first).Texts()) {
			x.tries("s", files, "p.M", api.Break{}, api.OK)
			x.registers("s", files, "p.M", 1, api.OK)
		}
		if string(x.r.Log()) != string(log) {
			t.Error("P1811: what is living already is written")
		}
		// Whichever way it is written, it is the same log.
		if i > 0 {
			y := fresh(t)
			y.registers("s", written[0], "p.M", 1, api.OK)
			y.rules("s", api.RFullAll, api.OK)
			if string(y.r.Log()) != string(log) {
				t.Error("P1806: the texts of a schema hang on how it is written")
			}
		}
		// Behind a Drop it is another version.
		x.drops("s", 1, api.OK)
		for _, files := range written {
			x.registers("s", files, "p.M", 2, api.OK)
		}
		x.again()
	}
}

func TestNearlySame(t *testing.T) { // P1801: what declares something else is another version, however little it is
	x := fresh(t)
	l := []string{
		"message M { int32 a = 1; }", "message M { int32 b = 1; }", "message M { int32 a = 1; reserved 2; }", "message M { int32 a = 1; reserved 2, 3; }",
		`message M { int32 a = 1; reserved "q"; }`, "message M { int32 a = 1; } message N { }", "message M { int32 a = 1; } enum E { Z = 0; }",
		"message M { int32 a = 1; enum E { Z = 0; } }", "message M { optional int32 a = 1; }", "message M { int32 a = 1; enum E { Y = 0; } }",
	}
	for i, s := range l {
		x.registers("s", src(s), "M", i+1, api.OK)
	}
	for i, s := range l {
		x.registers("s", src(s), "M", i+1, api.OK)
	}
	x.alike()
	x.again()
}
