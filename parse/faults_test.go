package parse_test

import (
	"fmt"
	"strings"
	"testing"

	"sigil/api"
	"sigil/parse"
)

// The words that are refused, by where a thing may begin.
const (
	refusedTops    = "option service extend"
	refusedMembers = "option extend extensions group required"
	refusedChoices = "option group optional repeated required oneof message enum reserved"
)

func TestFaultsOfFile(t *testing.T) { // P504
	for marked, e := range map[string]api.Errno{
		"@option a = 1;": api.ErrWord, "@service S {}": api.ErrWord, "@extend M {}": api.ErrWord, "message M {} @service": api.ErrWord, "; @option": api.ErrWord,
		"@syntax = 'proto3';": api.ErrSyntax, "@oneof o {}": api.ErrSyntax, "@reserved 1;": api.ErrSyntax, "@int32 a = 1;": api.ErrSyntax, "@optional": api.ErrSyntax, "@}": api.ErrSyntax, "@{": api.ErrSyntax, "@1": api.ErrSyntax, "@'x'": api.ErrSyntax,
		"message M { } @}": api.ErrSyntax, "enum E { A = 0; } @A": api.ErrSyntax, "@Message M {}": api.ErrSyntax, "@.": api.ErrSyntax, "@=": api.ErrSyntax, "@[": api.ErrSyntax,
		"package a; @package b;": api.ErrSyntax, "package a; message M {} @package": api.ErrSyntax, "package a; @package a;": api.ErrSyntax,
		"package @;": api.ErrSyntax, "package @.a;": api.ErrSyntax, "package a @b;": api.ErrSyntax, "package a.@;": api.ErrSyntax, "package a.@.b;": api.ErrSyntax, "package a. @1;": api.ErrSyntax, "package @'a';": api.ErrSyntax, "package a @message": api.ErrSyntax, "package @1": api.ErrSyntax, "package a @, b;": api.ErrSyntax,
		"import @x;": api.ErrSyntax, "import @;": api.ErrSyntax, "import 'x' @'y';": api.ErrSyntax, "import @1;": api.ErrSyntax, "import 'x' @}": api.ErrSyntax, "import @'';": api.ErrSyntax, "import @\"\"": api.ErrSyntax, "import 'x'@, 'y';": api.ErrSyntax, "import @(": api.ErrSyntax,
		"import @public 'x';": api.ErrWord, "import @weak 'x';": api.ErrWord, "import @public": api.ErrWord, "import 'x' @public": api.ErrSyntax, "import @option": api.ErrSyntax,
		"package@": api.ErrEnd, "package a@": api.ErrEnd, "package a.@": api.ErrEnd, "import @": api.ErrEnd, "import 'x'@": api.ErrEnd, "message@": api.ErrEnd, "enum@": api.ErrEnd, "message M@": api.ErrEnd, "message M {  @": api.ErrEnd, "enum E {@": api.ErrEnd, "enum E@": api.ErrEnd,
	} {
		checkMarked(t, marked, e)
	}
	for text, want := range map[string]api.Fault{
		"option a = 1;": {Err: api.ErrSyntax}, "; syntax = 'proto3';": {Err: api.ErrSyntax}, "'proto3'": {Err: api.ErrSyntax}, "=": {Err: api.ErrSyntax}, "service": {Err: api.ErrSyntax},
		"syntax": {Err: api.ErrEnd, At: 6}, "syntax ": {Err: api.ErrEnd, At: 7}, "syntax /*=*/": {Err: api.ErrEnd, At: 12}, "syntax 'proto3'": {Err: api.ErrSyntax, At: 7}, "syntax =": {Err: api.ErrEnd, At: 8}, "syntax = proto3;": {Err: api.ErrSyntax, At: 9}, "syntax = ;": {Err: api.ErrSyntax, At: 9}, "syntax = 3;": {Err: api.ErrSyntax, At: 9},
		"syntax = 'proto3 ';": {Err: api.ErrSyntax, At: 9}, "syntax = '';": {Err: api.ErrSyntax, At: 9}, "syntax = 'Proto3';": {Err: api.ErrSyntax, At: 9}, "syntax = 'proto3\\0';": {Err: api.ErrSyntax, At: 9}, "syntax = 'proto3' 'x';": {Err: api.ErrSyntax, At: 18}, "syntax = 'proto3' message": {Err: api.ErrSyntax, At: 18},
		"syntax = '" + strings.Repeat("proto3", 50) + "';": {Err: api.ErrSyntax, At: 9}, "syntax = 'proto2'": {Err: api.ErrSyntax, At: 9}, "syntax = 'proto2' }": {Err: api.ErrSyntax, At: 9},
	} {
		checkFault(t, text, want.At, want.Err)
	}
}

func TestFaultsOfMessage(t *testing.T) { // P504
	for marked, e := range map[string]api.Errno{
		"message @{": api.ErrSyntax, "message @'M' {": api.ErrSyntax, "message @1 {": api.ErrSyntax, "message M @;": api.ErrSyntax, "message M @}": api.ErrSyntax, "message M@.N {": api.ErrSyntax, "message @.M {": api.ErrSyntax, "message M @N {": api.ErrSyntax,
		"message M { @{": api.ErrSyntax, "message M { @= }": api.ErrSyntax, "message M { @1 }": api.ErrSyntax, "message M { @'a' }": api.ErrSyntax, "message M { @, }": api.ErrSyntax, "message M { @] }": api.ErrSyntax, "message M { @[ }": api.ErrSyntax, "message M { @- }": api.ErrSyntax, "message M { @< }": api.ErrSyntax,
		"message M { a @}": api.ErrSyntax, "message M { a @= 1; }": api.ErrSyntax, "message M { a b @1; }": api.ErrSyntax, "message M { a b @; }": api.ErrSyntax, "message M { a b @c": api.ErrSyntax, "message M { a b = @; }": api.ErrSyntax, "message M { a b = @-1; }": api.ErrSyntax, "message M { a b = @c; }": api.ErrSyntax, "message M { a b = @'1'; }": api.ErrSyntax, "message M { a b = 1 @}": api.ErrSyntax, "message M { a b = 1 @c = 2; }": api.ErrSyntax, "message M { a b = 1 @, }": api.ErrSyntax, "message M { a b = 1 @2; }": api.ErrSyntax,
		"message M { .@. }": api.ErrSyntax, "message M { .@; }": api.ErrSyntax, "message M { a.@= }": api.ErrSyntax, "message M { a.@.b c = 1; }": api.ErrSyntax, "message M { a @, b }": api.ErrSyntax, "message M { a b@.c = 1; }": api.ErrSyntax, "message M { a .@": api.ErrEnd,
		"message M { optional @= 1; }": api.ErrSyntax, "message M { optional a @= 1; }": api.ErrSyntax, "message M { repeated @; }": api.ErrSyntax, "message M { repeated a b @; }": api.ErrSyntax, "message M { optional repeated @= 1; }": api.ErrSyntax, "message M { optional @}": api.ErrSyntax, "message M { optional optional a @b = 1; }": api.ErrSyntax,
		"message M { optional @group a = 1; }": api.ErrWord, "message M { repeated @group": api.ErrWord, "message M { optional @group.a b = 1; }": api.ErrWord,
		"message M { optional map @<a, b> c = 1; }": api.ErrSyntax, "message M { repeated map @<": api.ErrSyntax, "message M { .map @<a, b> c = 1; }": api.ErrSyntax, "message M { map a @<": api.ErrSyntax, "message M { map.a @<": api.ErrSyntax, "message M { a @<": api.ErrSyntax,
		"message M { map<@, b> c = 1; }": api.ErrSyntax, "message M { map<a@> c = 1; }": api.ErrSyntax, "message M { map<a, @> c = 1; }": api.ErrSyntax, "message M { map<a, b @c = 1; }": api.ErrSyntax, "message M { map<a, b> @= 1; }": api.ErrSyntax, "message M { map<a, b> c @1; }": api.ErrSyntax, "message M { map<a, b@, d> c = 1; }": api.ErrSyntax, "message M { map<map@<a, b>, c> d = 1; }": api.ErrSyntax, "message M { map<a, b> c = @-1; }": api.ErrSyntax, "message M { map<a, b> c = 1 @}": api.ErrSyntax, "message M { map @= 1; }": api.ErrSyntax,
		"message M { a b = 1 @[c = d]; }": api.ErrWord, "message M { optional a b = 1 @[]; }": api.ErrWord, "message M { map<a, b> c = 1 @[": api.ErrWord, "message M { oneof o { a b = 1 @[": api.ErrWord, "message M { a b @[": api.ErrSyntax, "message M { a b = @[": api.ErrSyntax, "message M { a @[": api.ErrSyntax, "message M { reserved 1 @[": api.ErrSyntax, "message M { reserved 'a' @[": api.ErrSyntax, "message M { a b = 1; @[": api.ErrSyntax,
		"message M { oneof @{ a b = 1; } }": api.ErrSyntax, "message M { oneof o @a b = 1; }": api.ErrSyntax, "message M { oneof o { @} }": api.ErrSyntax, "message M { oneof o { ; ; @} }": api.ErrSyntax, "message M { oneof o { @= }": api.ErrSyntax, "message M { oneof o { @1 }": api.ErrSyntax, "message M { oneof o { a @} }": api.ErrSyntax, "message M { oneof o { map @<a, b> c = 1; } }": api.ErrSyntax, "message M { oneof o @; }": api.ErrSyntax, "message M { oneof o { a b = 1; } @= }": api.ErrSyntax, "message M { oneof o @= 1; }": api.ErrSyntax, "message M { oneof @. o = 1; }": api.ErrSyntax,
		"message M { enum @= 1; }": api.ErrSyntax, "message M { message M @= 1; }": api.ErrSyntax, "message M { reserved @= 1; }": api.ErrSyntax, "message M { reserved @a; }": api.ErrSyntax, "message M { message @.N a = 1; }": api.ErrSyntax,
		"message M {@": api.ErrEnd, "message M { a@": api.ErrEnd, "message M { a b@": api.ErrEnd, "message M { a b =@": api.ErrEnd, "message M { a b = 1@": api.ErrEnd, "message M { a b = 1;@": api.ErrEnd, "message M { .@": api.ErrEnd, "message M { a.@": api.ErrEnd, "message M { optional@": api.ErrEnd, "message M { map@": api.ErrEnd, "message M { map<@": api.ErrEnd, "message M { map<a@": api.ErrEnd, "message M { map<a,@": api.ErrEnd, "message M { map<a,b@": api.ErrEnd, "message M { map<a,b>@": api.ErrEnd, "message M { map<a,b>c@": api.ErrEnd,
		"message M { oneof@": api.ErrEnd, "message M { oneof o@": api.ErrEnd, "message M { oneof o {@": api.ErrEnd, "message M { oneof o { a b = 1;@": api.ErrEnd, "message M { oneof o { a b = 1; }@": api.ErrEnd, "message M { message N { }@": api.ErrEnd,
	} {
		checkMarked(t, marked, e)
	}
}

func TestRefusedWords(t *testing.T) { // P504: at each place where they are refused, whatever follows
	for _, behind := range []string{"", " a", " a = 1;", ".a b = 1;", " = 1;", " {", ";", " <", " 1", " 'a'", "}"} {
		for _, w := range strings.Fields(refusedTops) {
			checkMarked(t, "@"+w+behind, api.ErrWord)
			checkMarked(t, "message M { } ; @"+w+behind, api.ErrWord)
		}
		for _, w := range strings.Fields(refusedMembers) {
			checkMarked(t, "message M { @"+w+behind, api.ErrWord)
			checkMarked(t, "message M { a b = 1; message N { ; @"+w+behind, api.ErrWord)
			checkMarked(t, "message M { oneof o { a b = 1; } @"+w+behind, api.ErrWord)
		}
		for _, w := range strings.Fields(refusedChoices) {
			checkMarked(t, "message M { oneof o { @"+w+behind, api.ErrWord)
			checkMarked(t, "message M { oneof o { a b = 1; ; @"+w+behind, api.ErrWord)
		}
		checkMarked(t, "enum E { @option"+behind, api.ErrWord)
		checkMarked(t, "message M { enum E { A = 0; reserved 1; @option"+behind, api.ErrWord)
		for _, w := range []string{"public", "weak"} {
			checkMarked(t, "import @"+w+behind, api.ErrWord)
		}
		for _, w := range []string{"optional", "repeated"} {
			checkMarked(t, "message M { "+w+" @group"+behind, api.ErrWord)
		}
	}
	for _, w := range strings.Fields(special) { // all other words may not begin a top
		if !among(w, refusedTops) && !among(w, "package import message enum") {
			checkMarked(t, "@"+w+" a;", api.ErrSyntax)
		}
	}
}

func TestFaultsOfEnum(t *testing.T) { // P504
	for marked, e := range map[string]api.Errno{
		"enum @{": api.ErrSyntax, "enum @1": api.ErrSyntax, "enum E @;": api.ErrSyntax, "enum E@.F {": api.ErrSyntax, "enum E { @}": api.ErrSyntax, "enum E { ;; @}": api.ErrSyntax, "enum E { reserved 1; @}": api.ErrSyntax, "enum E { reserved 'A'; ; @} message M {}": api.ErrSyntax,
		"enum E { @1 = 1; }": api.ErrSyntax, "enum E { @'A' = 1; }": api.ErrSyntax, "enum E { @.A = 1; }": api.ErrSyntax, "enum E { A @1; }": api.ErrSyntax, "enum E { A @.B = 1; }": api.ErrSyntax, "enum E { A = @; }": api.ErrSyntax, "enum E { A = @B; }": api.ErrSyntax, "enum E { A = -@; }": api.ErrSyntax, "enum E { A = -@-1; }": api.ErrSyntax, "enum E { A = -@B; }": api.ErrSyntax, "enum E { A = 1 @}": api.ErrSyntax, "enum E { A = 1 @, B = 2 }": api.ErrSyntax, "enum E { A = 1 @-1; }": api.ErrSyntax, "enum E { A = 0; @{": api.ErrSyntax, "enum E { A @B = 1; }": api.ErrSyntax, "enum E { message @E {": api.ErrSyntax,
		"enum E { A = 1 @[a = b]; }": api.ErrWord, "enum E { A = -1 @[": api.ErrWord, "enum E { A = -@[": api.ErrSyntax, "enum E { A = @[": api.ErrSyntax, "enum E { A @[": api.ErrSyntax, "enum E { reserved 1 @[": api.ErrSyntax, "enum E { @[": api.ErrSyntax,
		"enum E { reserved @= 1; }": api.ErrSyntax, "enum E { reserved @to 1; }": api.ErrSyntax, "enum E { reserved @max; }": api.ErrSyntax,
		"enum E { A@": api.ErrEnd, "enum E { A =@": api.ErrEnd, "enum E { A = -@": api.ErrEnd, "enum E { A = 1@": api.ErrEnd, "enum E { A = 1;@": api.ErrEnd, "enum E { reserved@": api.ErrEnd, "enum E { reserved -@": api.ErrEnd,
	} {
		checkMarked(t, marked, e)
	}
}

func TestFaultsOfReserved(t *testing.T) { // P504: of rows and strings, in a message and in an enum
	for _, in := range []string{"message M { ", "enum E { A = 0; "} {
		for marked, e := range map[string]api.Errno{
			"reserved @;": api.ErrSyntax, "reserved @,": api.ErrSyntax, "reserved @}": api.ErrSyntax, "reserved @to": api.ErrSyntax, "reserved @max;": api.ErrSyntax, "reserved @a;": api.ErrSyntax, "reserved @(1);": api.ErrSyntax,
			"reserved 1 @2;": api.ErrSyntax, "reserved 1,@;": api.ErrSyntax, "reserved 1,@,2;": api.ErrSyntax, "reserved 1 @}": api.ErrSyntax, "reserved 1, @'a';": api.ErrSyntax, "reserved 1 to@;": api.ErrSyntax, "reserved 1 to @to;": api.ErrSyntax, "reserved 1 to @'a'": api.ErrSyntax, "reserved 1 to 2 @to 3;": api.ErrSyntax, "reserved 1 to max @to": api.ErrSyntax, "reserved 1 to max @2": api.ErrSyntax, "reserved 1 @max;": api.ErrSyntax, "reserved 1 @to_ 2;": api.ErrSyntax, "reserved 1 @a 2;": api.ErrSyntax, "reserved 1 to @Max": api.ErrSyntax, "reserved 1 to @[": api.ErrSyntax, "reserved 1, 2 @. 3": api.ErrSyntax,
			"reserved 'a' @'b';": api.ErrSyntax, "reserved 'a',@;": api.ErrSyntax, "reserved 'a', @1;": api.ErrSyntax, "reserved 'a', @b;": api.ErrSyntax, "reserved 'a' @to 'b'": api.ErrSyntax, "reserved 'a' @}": api.ErrSyntax, "reserved 'a', @-1": api.ErrSyntax,
			"reserved @'';": api.ErrSyntax, "reserved @'9a';": api.ErrSyntax, "reserved @'a b';": api.ErrSyntax, "reserved @'a.b';": api.ErrSyntax, "reserved 'a', @'-'": api.ErrSyntax, "reserved @'\\n'": api.ErrSyntax, "reserved @'\\xff'": api.ErrSyntax, "reserved @'é'": api.ErrSyntax,
			"reserved 2 to @1;": api.ErrRange, "reserved 5 to 5, 5 to @4": api.ErrRange, "reserved 0x10 to @017;": api.ErrRange, "reserved 1 to @0;": api.ErrRange, "reserved @2147483648;": api.ErrRange, "reserved 1 to @2147483648;": api.ErrRange, "reserved @9223372036854775807": api.ErrRange, "reserved 1, @4294967297;": api.ErrRange,
			"reserved @": api.ErrEnd, "reserved 1@": api.ErrEnd, "reserved 1,@": api.ErrEnd, "reserved 1 to @": api.ErrEnd, "reserved 1 to 2@": api.ErrEnd, "reserved 1 to max@": api.ErrEnd, "reserved 'a'@": api.ErrEnd, "reserved 'a',@": api.ErrEnd, "reserved 1;@": api.ErrEnd,
		} {
			checkMarked(t, in+marked, e)
		}
	}
	for marked, e := range map[string]api.Errno{
		"message M { reserved @-1; }": api.ErrSyntax, "message M { reserved 1, @-1; }": api.ErrSyntax, "message M { reserved 1 to @-1; }": api.ErrSyntax, "message M { reserved @-0": api.ErrSyntax,
		"message M { reserved @0; }": api.ErrRange, "message M { reserved 1, @0; }": api.ErrRange, "message M { reserved @00 to 5; }": api.ErrRange, "message M { reserved @536870912; }": api.ErrRange, "message M { reserved 1 to @536870912; }": api.ErrRange, "message M { reserved @2147483647; }": api.ErrRange, "message M { reserved @536870912 to max; }": api.ErrRange, "message M { reserved 536870911 to @536870910; }": api.ErrRange,
		"enum E { reserved -@-1; }": api.ErrSyntax, "enum E { reserved -@max; }": api.ErrSyntax, "enum E { reserved 1 to -@max; }": api.ErrSyntax, "enum E { reserved 1 to -@; }": api.ErrSyntax, "enum E { reserved -@'a'; }": api.ErrSyntax, "enum E { reserved 1, -@, 2": api.ErrSyntax,
		"enum E { reserved -@2147483649; }": api.ErrRange, "enum E { reserved -1 to -@2147483649; }": api.ErrRange, "enum E { reserved 5 to -@2; }": api.ErrRange, "enum E { reserved 0 to -@1; }": api.ErrRange, "enum E { reserved -1 to -@2; }": api.ErrRange, "enum E { reserved -2147483647 to -@2147483648; }": api.ErrRange, "enum E { reserved 1 to @0; }": api.ErrRange, "enum E { reserved 2147483647 to @2147483646": api.ErrRange,
	} {
		checkMarked(t, marked, e)
	}
}

func TestNumbers(t *testing.T) { // P504: the edges of numbers, in a field, a value, a row
	for n, right := range map[string]bool{"0": true, "1": true, "19000": true, "536870911": true, "536870912": true, "2147483647": true, "0x7fffffff": true, "017777777777": true, "2147483648": false, "2147483649": false, "0x80000000": false, "020000000000": false, "4294967296": false, "9223372036854775807": false} {
		for _, in := range []string{"message M { a b = %s; }", "message M { optional a b = %s; }", "message M { repeated a b = %s; }", "message M { map<a, b> c = %s; }", "message M { oneof o { a b = %s; } }", "enum E { A = %s; }", "enum E { A = 0; reserved %s; }", "enum E { A = 0; reserved -1 to %s; }"} {
			if right {
				if _, bad := parse.Parse(begin + fmt.Sprintf(in, n)); bad != (api.Fault{}) {
					t.Errorf("P504: %s: %+v", fmt.Sprintf(in, n), bad)
				}
			} else {
				checkMarked(t, fmt.Sprintf(in, "@"+n), api.ErrRange)
			}
		}
	}
	for n, want := range map[string]int{"0": 0, "1": -1, "2147483647": -2147483647, "2147483648": -2147483648, "0x80000000": -2147483648} {
		checkFile(t, begin+"enum E { A = - "+n+"; reserved -"+n+"; }", api.File{Enums: []api.EnumDecl{{Name: "E", Values: []api.EnumValue{{Name: "A", Number: want}}, Reserved: []api.Range{{From: want, To: want}}}}})
	}
	for _, n := range []string{"2147483649", "4294967296", "9223372036854775807"} {
		checkMarked(t, "enum E { A = -@"+n+"; }", api.ErrRange)
		checkMarked(t, "enum E { A = 0; reserved -@"+n+"; }", api.ErrRange)
		checkMarked(t, "enum E { A = 0; reserved -5 to -@"+n+"; }", api.ErrRange)
	}
}

func TestLongNames(t *testing.T) { // P504: names of MaxName bytes and one more, wherever one stands
	long := strings.Repeat("n", api.MaxName)
	for _, in := range []string{
		"package %s;", "message %s { }", "enum %s { A = 0; }", "message M { %s a = 1; }", "message M { a %s = 1; }", "message M { optional %s a = 1; }", "message M { map<%s, a> b = 1; }", "message M { map<a, %s> b = 1; }", "message M { map<a, b> %s = 1; }",
		"message M { oneof %s { a b = 1; } }", "message M { oneof o { %s b = 1; } }", "message M { oneof o { a %s = 1; } }", "enum E { %s = 0; }", "message M { message %s { } }", "message M { enum %s { A = 0; } }", "message M { reserved '%s'; }", "message M { reserved 'a', '%s'; }", "enum E { A = 0; reserved '%s'; }", "import '%s';",
	} {
		if _, bad := parse.Parse(begin + fmt.Sprintf(in, long)); bad != (api.Fault{}) {
			t.Errorf("P504: a name of MaxName bytes: %s: %+v", in, bad)
		}
		marked := strings.ReplaceAll(in, "'%s'", "@'%s'")
		if marked == in {
			marked = strings.ReplaceAll(in, "%s", "@%s")
		}
		checkMarked(t, fmt.Sprintf(marked, long+"n"), api.ErrLong)
		checkMarked(t, fmt.Sprintf(marked, strings.Repeat(long, 20)), api.ErrLong)
	}
	// By their meaning strings are long, not by their bytes.
	for _, in := range []string{"import %s;", "message M { reserved %s; }"} {
		checkMarked(t, fmt.Sprintf(in, "@'"+strings.Repeat("\\x41", 256)+"'"), api.ErrLong)
		if f, bad := parse.Parse(begin + fmt.Sprintf(in, "'"+strings.Repeat("\\x41", 255)+"'")); bad != (api.Fault{}) || len(f.Imports)+len(f.Messages) != 1 {
			t.Errorf("P504: %s: %+v", in, bad)
		}
	}
	checkMarked(t, "import @'"+strings.Repeat("é", 128)+"';", api.ErrLong)
	checkFile(t, begin+"import '"+strings.Repeat("é", 127)+"x';", api.File{Imports: []string{strings.Repeat("é", 127) + "x"}})
	// ErrLong ahead of what is no name.
	checkMarked(t, "message M { reserved @'9"+long+"';", api.ErrLong)
	checkMarked(t, "message M { reserved @'9"+long[1:]+"';", api.ErrSyntax)
	// Where no name must stand a long word is just wrong.
	checkMarked(t, "@"+long+"n", api.ErrSyntax)
	checkMarked(t, "message M { reserved @"+long+"n;", api.ErrSyntax)
	checkMarked(t, "message M { a b = @"+long+"n;", api.ErrSyntax)
	checkMarked(t, "import @"+long+"n;", api.ErrSyntax)
}

func TestLongInAll(t *testing.T) { // P504: the fault that looks back, its place and what comes ahead of it
	n := func(k int) string { return strings.Repeat("n", k) }
	for _, in := range []string{"package %s;", "message M { %s x = 1; }", "message M { optional %s x = 1; }", "message M { map<%s, a> b = 1; }", "message M { map<a, %s> b = 1; }", "message M { oneof o { %s x = 1; } }"} {
		for _, names := range []string{n(127) + "." + n(127), n(100) + "." + n(100) + "." + n(53), strings.Repeat("a.", 127) + "a", n(253) + ".a", "a." + n(253)} {
			if len(names) != 255 {
				t.Fatalf("%d bytes", len(names))
			}
			if _, bad := parse.Parse(begin + fmt.Sprintf(in, names)); bad != (api.Fault{}) {
				t.Errorf("P504: 255 bytes in all: %s: %+v", in, bad)
			}
			checkMarked(t, fmt.Sprintf(in, "@"+names+"n"), api.ErrLong)
			checkMarked(t, fmt.Sprintf(in, "@a."+names), api.ErrLong)
			checkMarked(t, fmt.Sprintf(in, "@"+names+" /* */ . n"), api.ErrLong)
			if strings.HasPrefix(in, "package") {
				checkMarked(t, fmt.Sprintf(in, "@."+names[1:]), api.ErrSyntax)
				continue
			}
			checkMarked(t, fmt.Sprintf(in, "@."+names), api.ErrLong)
			checkMarked(t, fmt.Sprintf(in, "@. "+names), api.ErrLong)
			if _, bad := parse.Parse(begin + fmt.Sprintf(in, "."+names[:254])); bad != (api.Fault{}) && !strings.HasSuffix(names[:254], ".") {
				t.Errorf("P504: 255 bytes with a dot ahead: %s: %+v", in, bad)
			}
		}
	}
	checkMarked(t, "message M { @."+n(255)+" x = 1; }", api.ErrLong)
	checkFile(t, begin+"message M { ."+n(254)+" x = 1; }", field(api.FieldDecl{Card: 1, Type: "." + n(254), Name: "x", Number: 1}))
	for marked, e := range map[string]api.Errno{
		// behind it
		"package @a." + n(254) + " }": api.ErrLong, "package @a." + n(254): api.ErrLong, "package @a." + n(254) + " 1": api.ErrLong, "message M { @a." + n(254) + " = 1;": api.ErrLong, "message M { @." + n(255) + " " + n(256) + " = 1;": api.ErrLong, "message M { @." + n(255): api.ErrLong, "message M { map<@a." + n(254) + ">": api.ErrLong, "message M { optional @." + n(255) + " [": api.ErrLong,
		// ahead of it
		"package a." + n(254) + ".@;": api.ErrSyntax, "package a." + n(254) + ".@": api.ErrEnd, "package " + n(255) + ".@" + n(256) + ";": api.ErrLong, "message M { ." + n(255) + ".@= 1": api.ErrSyntax, "message M { ." + n(255) + ".@": api.ErrEnd, "message M { ." + n(255) + "." + n(255) + ".@1": api.ErrSyntax, "message M { .@" + n(256) + " x = 1; }": api.ErrLong, "message M { map<a, ." + n(255) + ".@>": api.ErrSyntax, "message M { " + n(200) + "." + n(200) + ".@" + n(300) + ".": api.ErrLong,
	} {
		checkMarked(t, marked, e)
	}
}

func TestOfOneToken(t *testing.T) { // P504: which of several faults of one token is answered, of tokens as no text has
	long := strings.Repeat("n", 256)
	for _, c := range []struct {
		front string
		tok   api.Token
		e     api.Errno
	}{
		{"syntax =", api.Token{Kind: 3, Text: "proto3"}, api.ErrString}, {"syntax =", api.Token{Kind: 3, Text: "'\xff'"}, api.ErrCoding}, {"syntax =", api.Token{Kind: 3, Text: "'" + strings.Repeat("a", api.MaxText) + "'"}, api.ErrLong}, {"syntax =", api.Token{Kind: 3, Text: "'" + long + "'"}, api.ErrSyntax},
		{begin + "import", api.Token{Kind: 3, Text: ""}, api.ErrString}, {begin + "import", api.Token{Kind: 3, Text: "'" + long}, api.ErrString}, {begin + "import", api.Token{Kind: 3, Text: "'" + long + "\xff'"}, api.ErrCoding}, {begin + "import", api.Token{Kind: 3, Text: "'" + long + "'"}, api.ErrLong}, {begin + "import", api.Token{Kind: 3, Text: strings.Repeat("a", api.MaxText+1)}, api.ErrLong}, {begin + "import", api.Token{Kind: 4, Text: "public"}, api.ErrSyntax}, {begin + "import", api.Token{Kind: 3, Text: "public"}, api.ErrString}, {begin + "import", api.Token{Kind: 1, Text: "public"}, api.ErrWord},
		{begin + "message M { reserved", api.Token{Kind: 3, Text: "'9" + long}, api.ErrString}, {begin + "message M { reserved", api.Token{Kind: 3, Text: "'9" + long + "'"}, api.ErrLong}, {begin + "message M { reserved", api.Token{Kind: 3, Text: "'9'"}, api.ErrSyntax}, {begin + "message M { reserved 1,", api.Token{Kind: 3, Text: "'"}, api.ErrSyntax}, {begin + "message M { reserved 'a',", api.Token{Kind: 2, Text: "'"}, api.ErrSyntax},
		{begin + "message M { reserved", api.Token{Kind: 2, Text: ""}, api.ErrDigits}, {begin + "message M { reserved", api.Token{Kind: 2, Text: "9223372036854775808"}, api.ErrDigits}, {begin + "message M { reserved", api.Token{Kind: 2, Text: strings.Repeat("0", api.MaxText)}, api.ErrRange}, {begin + "message M { reserved", api.Token{Kind: 2, Text: strings.Repeat("0", api.MaxText+1)}, api.ErrLong}, {begin + "message M { reserved 2 to", api.Token{Kind: 2, Text: "-1"}, api.ErrDigits}, {begin + "message M { reserved 2 to", api.Token{Kind: 2, Text: "max"}, api.ErrDigits}, {begin + "message M { reserved 2 to", api.Token{Kind: 4, Text: "max"}, api.ErrSyntax},
		{begin + "message M { a b =", api.Token{Kind: 2, Text: "x"}, api.ErrDigits}, {begin + "message M { a b =", api.Token{Kind: 3, Text: "1"}, api.ErrSyntax}, {begin + "message M { a b = 1", api.Token{Kind: 1, Text: "["}, api.ErrSyntax}, {begin + "message M { a b = 1", api.Token{Kind: 4, Text: "["}, api.ErrWord}, {begin + "message M { a b = 1", api.Token{Kind: 1, Text: ";"}, api.ErrSyntax},
		{begin + "enum E { A = -", api.Token{Kind: 2, Text: "-1"}, api.ErrDigits}, {begin + "enum E { A =", api.Token{Kind: 2, Text: "-1"}, api.ErrDigits}, {begin + "enum E { A =", api.Token{Kind: 1, Text: "-"}, api.ErrSyntax}, {begin + "enum E { A = 0;", api.Token{Kind: 1, Text: "}"}, api.ErrSyntax}, {begin + "enum E {", api.Token{Kind: 4, Text: "option"}, api.ErrSyntax}, {begin + "enum E {", api.Token{Kind: 3, Text: "option"}, api.ErrSyntax},
		{begin + "message", api.Token{Kind: 1, Text: "9" + long}, api.ErrLong}, {begin + "message", api.Token{Kind: 1, Text: strings.Repeat("\xff", 256)}, api.ErrLong}, {begin + "message", api.Token{Kind: 1, Text: strings.Repeat("\xff", 255)}, api.ErrSyntax}, {begin + "message", api.Token{Kind: 1, Text: ""}, api.ErrSyntax}, {begin + "message", api.Token{Kind: 1, Text: "a.b"}, api.ErrSyntax}, {begin + "message", api.Token{Kind: 4, Text: long}, api.ErrSyntax}, {begin + "message", api.Token{Kind: 0, Text: long}, api.ErrSyntax},
		{begin + "message M {", api.Token{Kind: 1, Text: ""}, api.ErrSyntax}, {begin + "message M {", api.Token{Kind: 1, Text: ";"}, api.ErrSyntax}, {begin + "message M {", api.Token{Kind: 1, Text: "}"}, api.ErrSyntax}, {begin + "message M {", api.Token{Kind: 4, Text: "message"}, api.ErrSyntax}, {begin + "message M {", api.Token{Kind: 4, Text: "group"}, api.ErrSyntax}, {begin + "message M {", api.Token{Kind: 3, Text: "group"}, api.ErrSyntax}, {begin + "message M {", api.Token{Kind: 1, Text: "group"}, api.ErrWord}, {begin + "message M { oneof o {", api.Token{Kind: 0, Text: "}"}, api.ErrSyntax},
		{begin, api.Token{Kind: 1, Text: ";"}, api.ErrSyntax}, {begin, api.Token{Kind: 0, Text: ";"}, api.ErrSyntax}, {begin, api.Token{Kind: 3, Text: "service"}, api.ErrSyntax}, {begin, api.Token{Kind: 2, Text: "x"}, api.ErrSyntax}, {begin, api.Token{Kind: 3, Text: "'"}, api.ErrSyntax},
		{begin + "message M { map", api.Token{Kind: 1, Text: "<"}, api.ErrSyntax}, {begin + "message M { a", api.Token{Kind: 1, Text: "."}, api.ErrSyntax}, {begin + "message M {", api.Token{Kind: 1, Text: "."}, api.ErrSyntax},
		{begin + "message M {", api.Token{Kind: 5, Text: "}"}, api.ErrEnd}, {begin + "message", api.Token{Kind: 5, Text: "M"}, api.ErrEnd},
	} {
		c.tok.At = -12345
		l := append(tokens(c.front), c.tok)
		for _, behind := range [][]api.Token{nil, {{Kind: 5}}, {{Kind: 4, At: 1, Text: ";"}}, {{Kind: 9, At: 2}}, {{Kind: 1, At: 3, Text: "option"}}} {
			checkTokens(t, append(l[:len(l):len(l)], behind...), api.Fault{Err: c.e, At: -12345})
		}
	}
	// The sign `<` behind a sign `map` begins no map either.
	l := append(tokens(begin+"message M {"), api.Token{Kind: 4, At: 5, Text: "map"})
	checkTokens(t, append(l, tokens("<a, b> c = 1; }")...), api.Fault{Err: api.ErrSyntax, At: 5})
}
