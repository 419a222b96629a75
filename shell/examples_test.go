package shell_test

import (
	"slices"
	"testing"

	"sigil/api"
	"sigil/shell"
)

func TestExamples(t *testing.T) { // P2001 to P2005: the chapter's examples
	pairs := []string{
		`source s a "syntax = \"proto3\"; message M { int32 a = 1; }"`, "ok 1",
		`load s`, "ok 1 0",
		`types s`, `ok "M"`,
		`json t s M "{\"a\": 150}"`, "ok",
		`encode t b`, "ok 3",
		`dump b`, "ok 089601",
		`hex c 08968100`, "ok 4",
		`strict c s M u`, "longer 1",
		`loose c s M u`, "ok",
		`same t u`, "ok yes",
		`get u a`, "ok num 150",
		`show none`, "none",
		`frob`, "command",
		`get u a b`, "command",
		" \t ", "",
	}
	plays(t, pairs...)
	want := "ok 1\nok 1 0\nok \"M\"\nok\nok 3\nok 089601\nok 4\nlonger 1\nok\nok yes\nok num 150\nnone\ncommand\ncommand\n\n"
	lines, _ := halves(pairs)
	script := ""
	for _, l := range lines {
		script += l + "\n"
	}
	if got := shell.Run(script); got != want {
		t.Errorf("P2003: %q, want %q", got, want)
	}
}

func TestDocumentExamples(t *testing.T) { // the document's ten examples of the whole, by commands
	one := proto + `package p; message M { int32 a = 1; string b = 2; repeated sint32 c = 3; map<string, M> d = 4; optional bool e = 5; oneof o { fixed32 f = 6; M g = 7; } }`
	two := proto + `package p; message M { int64 a = 1; bytes b = 2; repeated sint32 c = 3; map<string, M> d = 4; reserved 5; oneof o { fixed32 f = 6; M g = 7; } }`
	three := proto + `package p; message M { int32 a = 1; string b = 2; repeated int32 c = 3; map<string, M> d = 4; optional bool e = 5; oneof o { fixed32 f = 6; M g = 7; } }`
	mixed := `syntax="proto3"; // the same
package p; message M { oneof o { M g = 7; fixed32 f = 6; } optional bool e = 5; map<string,M> d = 4; repeated sint32 c = 3; string b = 2; int32 a = 1; }`
	pairs := slices.Concat(loaded("s", one), loaded("q", two), loaded("r", three), loaded("m", mixed))
	pairs = append(pairs, `hex n ""`, "ok 0", `strict n s p.M t`, "ok", `show t`, `ok "{}"`, `encode t b`, "ok 0", `dump b`, "ok")
	for _, c := range [][2]string{
		{`{"a":150}`, "089601"}, {`{"a":-1}`, "08ffffffffffffffffff01"}, {`{"b":"hi"}`, "12026869"}, {`{"c":[1,-1]}`, "1a020201"}, {`{"e":false}`, "2800"},
		{`{"d":{"":{}}}`, "22040a001200"}, {`{"f":1}`, "3501000000"}, {`{"g":{}}`, "3a00"},
	} {
		pairs = append(pairs, line("json", "t", "s", "p.M", c[0]), "ok", "encode t b", "ok "+number(len(c[1])/2), "dump b", "ok "+c[1], "strict b s p.M u", "ok", "same t u", "ok yes", "show u", "ok "+word(c[0]))
	}
	for _, c := range []struct {
		bytes, want string
	}{
		{"08968100", "longer 1"}, {"0800", "zero 1"}, {"1200", "zero 1"}, {"1a00", "empty 1"}, {"1802", "wire 0"}, {"1001", "wire 0"}, {"4001", "stranger 0"}, {"28000801", "order 2"},
	} {
		pairs = append(pairs, "hex b "+c.bytes, "ok "+number(len(c.bytes)/2), "strict b s p.M none", c.want)
	}
	for _, c := range [][2]string{
		{"08050800", "{}"}, {"18021a0201041806", `{"c":[1,-1,2,3]}`}, {"35010000003a00", `{"g":{}}`}, {"40014b50074c0801", `{"a":1}`}, {"2200", `{"d":{"":{}}}`},
	} {
		pairs = append(pairs, "hex b "+c[0], "ok "+number(len(c[0])/2), "loose b s p.M t", "ok", "show t", "ok "+word(c[1]))
	}
	pairs = append(pairs, "hex b 2200", "ok 2", "canon b s p.M c", "ok 6", "dump c", "ok 22040a001200",
		"compat s p.M q p.M", "ok", line("json", "t", "s", "p.M", `{"a":-1,"e":true}`), "ok", "project t q p.M u", "ok", "show u", `ok "{\"a\":\"-1\"}"`,
		"compat s p.M r p.M", "break 2 3", "changes s m", "ok", "changes s r", `ok "p.M 3: type sint32 to int32"`)
	plays(t, pairs...)
	l := answers(t, source("s", "a", one), "load s", source("m", "b", mixed), "load m", "mark s", "mark m")
	if l[4] != l[5] || len(l[4]) != len("ok ")+64 {
		t.Errorf("P2005: mark: %s, %s", l[4], l[5])
	}
}

func TestWordsOfExamples(t *testing.T) { // P2001: a line of each kind
	for _, c := range []struct {
		line string
		want []string
		e    api.Errno
	}{
		{`source s a "syntax = \"proto3\"; message M { int32 a = 1; }"`, []string{"source", "s", "a", `syntax = "proto3"; message M { int32 a = 1; }`}, api.OK},
		{"", nil, api.OK}, {" \t", nil, api.OK}, {"#", nil, api.OK}, {`""`, []string{""}, api.OK}, {`"`, nil, api.ErrCommand},
	} {
		wordsAre(t, c.line, c.want, c.e)
	}
}
