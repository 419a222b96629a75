package shell_test

import (
	"fmt"
	"slices"
	"strings"
	"testing"

	"sigil/api"
	"sigil/shell"
)

// runs looks at the whole answer of a script.
func runs(t *testing.T, script, want string) {
	t.Helper()
	if got := shell.Run(script); got != want {
		t.Errorf("P2003: Run(%.60q), of %d bytes = %.100q, of %d, want %.100q, of %d", script, len(script), got, len(got), want, len(want))
	}
}

func TestLines(t *testing.T) { // P2003: what a line is
	for _, c := range [][2]string{
		{"", ""}, {"\n", "\n"}, {"\n\n", "\n\n"}, {" ", "\n"}, {" \n", "\n"}, {"#", "\n"}, {"\n#", "\n\n"}, {"frob", "command\n"}, {"frob\n", "command\n"}, {"\nfrob", "\ncommand\n"}, {"frob\n\n", "command\n\n"}, {"list", "ok\n"}, {"list\nlist", "ok\nok\n"}, {"list\nlist\n", "ok\nok\n"}, {"list\n \n#\nlist", "ok\n\n\nok\n"},
		{"list\r\nlist", "command\nok\n"}, {"list\rlist", "command\n"}, {"list\x00", "command\n"}, {"list # a\nlist#\n\tlist\t", "ok\ncommand\nok\n"}, {"\"list\"\n\"li\\x73t\" #", "ok\nok\n"}, {"\"\"", "command\n"}, {"List", "command\n"}, {"list\u2028list", "command\n"},
		// A quoted word ends with its line.
		{"bytes b \"a\nb\"", "command\ncommand\n"}, {"bytes b \"a\\nb\"\ndump b", "ok 3\nok 610a62\n"},
	} {
		runs(t, c[0], c[1])
	}
}

func TestMostLines(t *testing.T) { // P2003: MaxLines lines and one more, the last one with and without its byte 10
	const most = api.MaxLines
	if most != 512 {
		t.Fatal(most)
	}
	for _, c := range []struct{ line, told string }{{"", ""}, {" ", ""}, {"list", "ok"}, {"#", ""}, {"frob", "command"}} {
		full, told := repeated(c.line+"\n", most), repeated(c.told+"\n", most)
		runs(t, full, told)
		runs(t, full+c.line+"\n", "long\n")
		runs(t, full+"list", "long\n")
		runs(t, full+" ", "long\n")
		runs(t, full+"\n", "long\n")
		runs(t, repeated(c.line+"\n", most-1)+"list", repeated(c.told+"\n", most-1)+"ok\n")
		runs(t, repeated(c.line+"\n", most-1), repeated(c.told+"\n", most-1))
	}
	runs(t, repeated("\n", 65536), "long\n")
}

func TestScriptLengths(t *testing.T) { // P2003: scripts of MaxScript bytes and of one more
	const most = api.MaxScript
	runs(t, repeated("#", most), "\n")
	runs(t, repeated("#", most+1), "long\n")
	runs(t, repeated("#", most-1)+"\n", "\n")
	runs(t, repeated("#", most)+"\n", "long\n")
	runs(t, repeated("x", most), "command\n")
	runs(t, repeated("x", most+1), "long\n")
	runs(t, "list\n"+repeated(" ", most-5), "ok\n\n")
	runs(t, "list\n"+repeated(" ", most-4), "long\n")
	runs(t, repeated("list\n", 3*most), "long\n")
	runs(t, repeated("\n", most+1), "long\n")
	full := "bytes b " + repeated("x", most-8)
	runs(t, full, fmt.Sprintf("ok %d\n", most-8))
	runs(t, full+"x", "long\n")
}

// asLong is a script, and its answers, that are so many bytes. Trees of three sizes are shown as often as they fit; the last answer is a text of just the bytes that are missing.
func asLong(t *testing.T, size int) (lines, told []string) {
	t.Helper()
	lines = []string{source("s", "f", small), "load s", source("q", "f", proto+"message L { repeated string l = 1; }"), "load q", line("json", "v0", "q", "L", `{"l":["`+repeated("y", 16000)+`"]}`)}
	for i := range 6 {
		lines = append(lines, fmt.Sprintf("merge v%d v%d v%d", i, i, i+1))
	}
	told = answers(t, lines...)
	have := 0
	for _, l := range told {
		have += len(l) + 1
	}
	ahead := lines
	for _, show := range []string{"show v6", "show v3", "show v0"} {
		shown := last(t, slices.Concat(ahead, []string{show})...)
		for have+len(shown) < size-1000 {
			lines, told, have = append(lines, show), append(told, shown), have+len(shown)+1
		}
	}
	missing := repeated("z", size-have-len("ok\nok text \"\"\n"))
	lines, told = append(lines, line("json", "w", "s", "p.M", `{"b":"`+missing+`"}`)), append(told, "ok")
	return append(lines, "get w b"), append(told, `ok text "`+missing+`"`)
}

func TestAnswerOfMaxLog(t *testing.T) { // P2003: an answer of MaxLog bytes, and one of one more; what stands behind is not done
	t.Parallel()
	lines, told := asLong(t, api.MaxLog)
	whole := strings.Join(told, "\n") + "\n"
	if len(whole) != api.MaxLog {
		t.Fatal(len(whole))
	}
	runs(t, strings.Join(lines, "\n"), whole)
	// Nothing more fits, an empty line neither.
	runs(t, strings.Join(lines, "\n")+"\n\n", whole+"long\n")
	runs(t, strings.Join(lines, "\n")+"\nlist\n\n#\nfrob\n", whole+"long\nlong\nlong\nlong\n")
	// One byte more: the last answer is too long, and what is behind it is not done.
	lines, told = asLong(t, api.MaxLog+1)
	ahead := strings.Join(told[:len(told)-1], "\n") + "\n"
	runs(t, strings.Join(lines, "\n"), ahead+"long\n")
	runs(t, strings.Join(lines, "\n")+"\n\nlist\n", ahead+"long\nlong\nlong\n")
	// One byte less: an empty line fits, and then no other one.
	lines, told = asLong(t, api.MaxLog-1)
	whole = strings.Join(told, "\n") + "\n"
	runs(t, strings.Join(lines, "\n")+"\n\n", whole+"\n")
	runs(t, strings.Join(lines, "\n")+"\n\n\n", whole+"\nlong\n")
	runs(t, strings.Join(lines, "\n")+"\nlist\n\n", whole+"long\nlong\n")
}

func TestAnswerOfOneLine(t *testing.T) { // P2003: one answer alone that is too long ends the run, however short those behind it would be
	t.Parallel()
	// Leaves of a list that lies deep, below long names: the paths are more than MaxLog bytes.
	name := repeated("n", 200)
	lines := []string{
		source("s", "f", proto+"message M { M "+name+" = 1; repeated bool l = 2; }"), "load s",
		line("json", "t", "s", "M", `{"`+name+`":{"`+name+`":{"`+name+`":{"l":[true`+repeated(",true", 499)+`]}}}}`),
	}
	for range 8 {
		lines = append(lines, "merge t t t")
	}
	want := repeated("ok\n", len(lines)-2)
	runs(t, strings.Join(lines, "\n")+"\nget t "+name+"\nleaves t\nlist\n\nfrob", "ok 1\nok 1 0\n"+want+last(t, slices.Concat(lines, []string{"get t " + name})...)+"\nlong\nlong\nlong\nlong\n")
	l := answers(t, slices.Concat(lines, []string{"get t " + name + "." + name + "." + name + ".l", "list"})...)
	if l[len(l)-2] != "ok list 128000" || l[len(l)-1] != "ok" {
		t.Errorf("P2003: %.100q", l[len(l)-2:])
	}
}

func TestAnswersStandAlone(t *testing.T) { // P2003: a line's answer hangs on the lines ahead of it alone
	for seed := range int64(150) {
		m := newMaker(seed)
		lines, want := m.script(30)
		n := m.n(len(lines) + 1)
		got := shell.Run(strings.Join(lines[:n], "\n") + repeated("\n", min(n, 1)))
		if front := strings.Join(want[:n], "\n") + repeated("\n", min(n, 1)); got != front {
			t.Fatalf("P2003: of the first %d lines: %.300q, want %.300q", n, got, front)
		}
	}
}
