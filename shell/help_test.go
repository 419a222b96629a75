package shell_test

import (
	"fmt"
	"slices"
	"strings"
	"testing"

	"sigil/api"
	"sigil/bind"
	"sigil/json"
	"sigil/shell"
)

const proto = `syntax = "proto3"; `

// small is the schema of the document's examples, with bytes and an enum in it.
const small = proto + `package p; message M { int32 a = 1; string b = 2; repeated sint32 c = 3; map<string, M> d = 4; optional bool e = 5; oneof o { fixed32 f = 6; M g = 7; } bytes h = 8; uint64 i = 9; E k = 10; } enum E { Z = 0; ONE = 1; }`

// wider is a schema that reads all that small wrote, and is not read by it.
const wider = proto + `package p; message M { int64 a = 1; bytes b = 2; repeated sint32 c = 3; map<string, M> d = 4; bool e = 5; oneof o { fixed32 f = 6; M g = 7; } bytes h = 8; uint64 i = 9; E k = 10; string more = 11; } enum E { Z = 0; ONE = 1; }`

// word writes a text as one word.
func word(text string) string { return shell.Quote([]byte(text)) }

// line is a command with its words, each of them quoted.
func line(words ...string) string {
	l := slices.Clone(words[:1])
	for _, w := range words[1:] {
		l = append(l, word(w))
	}
	return strings.Join(l, " ")
}

// source is the line that puts a text under way.
func source(name, file, text string) string { return line("source", name, file, text) }

// loaded is lines, each with its answer behind it, by which a schema of one text comes to be.
func loaded(name, text string) []string {
	s, bad := bind.Load([]api.Source{{Name: "f", Text: text}})
	if bad.Err != api.OK {
		panic(fmt.Sprint(bad))
	}
	return []string{source(name, "f", text), "ok 1", "load " + name, fmt.Sprintf("ok %d %d", len(s.Messages()), len(s.Enums()))}
}

// schema is the schema of one text.
func schema(t testing.TB, text string) *bind.Schema {
	t.Helper()
	s, bad := bind.Load([]api.Source{{Name: "f", Text: text}})
	if bad.Err != api.OK {
		t.Fatalf("Load(%s): %+v", text, bad)
	}
	return s
}

// treeOf is the tree of a JSON text.
func treeOf(t testing.TB, s *bind.Schema, name, text string) api.Value {
	t.Helper()
	v, bad := json.New(s).Parse(name, text)
	if bad.Err != api.OK {
		t.Fatalf("Parse(%s): %+v", text, bad)
	}
	return v
}

// answers are the lines that a script answers.
func answers(t testing.TB, lines ...string) []string {
	t.Helper()
	got := shell.Run(strings.Join(lines, "\n") + "\n")
	l := strings.Split(got, "\n")
	if len(l) != len(lines)+1 || l[len(lines)] != "" {
		t.Fatalf("P2003: %d lines are answered by %.300q", len(lines), got)
	}
	return l[:len(lines)]
}

// last is what the last line of a script answers.
func last(t testing.TB, lines ...string) string {
	t.Helper()
	return answers(t, lines...)[len(lines)-1]
}

// halves takes lines with their answers apart.
func halves(pairs []string) (lines, want []string) {
	for i := 0; i < len(pairs); i += 2 {
		lines, want = append(lines, pairs[i]), append(want, pairs[i+1])
	}
	return lines, want
}

// plays looks at the answers of lines, each of which has its answer behind it.
func plays(t *testing.T, pairs ...string) {
	t.Helper()
	lines, want := halves(pairs)
	for i, got := range answers(t, lines...) {
		if got != want[i] {
			t.Errorf("P2005: line %d, %.300s: %.300q, want %.300q", i, lines[i], got, want[i])
		}
	}
}

// playsBehind is plays, behind lines that were looked at before.
func playsBehind(t *testing.T, ahead []string, pairs ...string) {
	t.Helper()
	plays(t, slices.Concat(ahead, pairs)...)
}

// repeated is so many of a text.
func repeated(text string, n int) string { return strings.Repeat(text, n) }
