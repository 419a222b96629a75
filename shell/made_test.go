package shell_test

import (
	"fmt"
	"maps"
	"math/rand"
	"slices"
	"strings"
	"testing"

	"sigil/api"
	"sigil/bind"
	"sigil/digest"
	"sigil/encode"
	"sigil/json"
	"sigil/path"
	"sigil/shell"
	"sigil/stream"
	"sigil/strict"
)

// maker makes lines, all from one seed.
type maker struct {
	r       *rand.Rand
	x       *second
	digests []string // what was told as digests
}

func newMaker(seed int64) *maker { return &maker{r: rand.New(rand.NewSource(seed)), x: newSecond()} }

func (m *maker) n(n int) int { return m.r.Intn(n) }

// one says yes once in so many times.
func (m *maker) one(in int) bool { return m.n(in) == 0 }

func pick[T any](m *maker, l ...T) T { return l[m.n(len(l))] }

// body is a schema text that is written in several ways: fields that come and go, types that widen.
func (m *maker) body() string {
	field := func(l ...string) string { return pick(m, l...) }
	b := "message M {" +
		field("int32 a = 1;", "int64 a = 1;", "int32 a = 1;", "string a = 1;", "reserved 1;", "repeated int32 a = 1;") +
		field("string b = 2;", "bytes b = 2;", "string b = 2;", "string bb = 2;", "") +
		field("repeated sint32 c = 3;", "repeated sint32 c = 3;", "repeated sint64 c = 3;", "repeated string c = 3;") +
		field("map<string, N> d = 4;", "map<string, N> d = 4;", "map<int32, N> d = 4;", "map<string, string> d = 4;") +
		field("oneof o { bool e = 5; M g = 6; }", "oneof o { bool e = 5; M g = 6; }", "M g = 6;", "oneof o { M g = 6; N n = 7; }") + "}" +
		"message N {" + field("uint64 x = 1;", "uint64 x = 1;", "optional uint64 x = 1;", "double x = 1;") + field("M m = 2;", "M m = 2;", "repeated M m = 2;") + field("", "E k = 3;") + "}"
	if m.one(2) {
		b = strings.Replace(b, "message N", " /* b */ message N", 1)
	}
	return b + "enum E { Z = 0; ONE = 1; }"
}

// text is a schema text.
func (m *maker) text() string {
	if m.one(12) {
		return pick(m, "", "x", proto, proto+"message M { N n = 1; }", proto+"message M { int32 a; }", proto+`import "g"; message Q { p.M m = 1; }`, proto+"package p; message Q { E e = 1; }", "syntax", proto+"enum E { A = 1; }")
	}
	return proto + "package p; " + m.body()
}

// name is a name for a thing.
func (m *maker) name() string { return pick(m, "a", "b", "c", "d", "e", "", "x y") }

// named is a name of a thing of that kind, mostly of one that there is.
func (m *maker) named(need string) string {
	var l []string
	switch need {
	case "S":
		l = slices.Sorted(maps.Keys(m.x.schemas))
	case "T":
		l = slices.Sorted(maps.Keys(m.x.trees))
	case "B":
		l = slices.Sorted(maps.Keys(m.x.blobs))
	case "P":
		l = slices.Sorted(maps.Keys(m.x.proofs))
	case "E":
		l = slices.Sorted(maps.Keys(m.x.edits))
	}
	if len(l) == 0 || m.one(25) {
		return m.name()
	}
	return pick(m, l...)
}

// aJson is a text of a tree of p.M or p.N, most often right.
func (m *maker) aJson(typ string, deep int) string {
	var l []string
	add := func(in int, name, value string) {
		if m.one(in) {
			l = append(l, fmt.Sprintf("%q:%s", name, value))
		}
	}
	small := fmt.Sprint(m.n(5) - 2)
	if typ == "p.N" {
		add(2, "x", pick(m, fmt.Sprint(m.n(3)), `"18446744073709551615"`))
		if deep > 0 {
			add(3, "m", m.aJson("p.M", deep-1))
		}
		return "{" + strings.Join(l, ",") + "}"
	}
	add(2, "a", small)
	add(2, "b", pick(m, `"hi"`, `"AAAA"`, `""`, `"é\n\u0001"`))
	add(2, "c", pick(m, "["+small+"]", "[1,-1,2]", "[]", "[0,0,"+small+"]"))
	if deep > 0 {
		add(2, "d", fmt.Sprintf(`{"%d":%s,"7":%s}`, m.n(3), m.aJson("p.N", deep-1), m.aJson("p.N", 0)))
		add(3, "g", m.aJson("p.M", deep-1))
	} else {
		add(3, "e", pick(m, "true", "false"))
	}
	out := "{" + strings.Join(l, ",") + "}"
	if m.one(20) {
		out = pick(m, "", "[]", out+",", `{"z":1}`, strings.Replace(out, "1", `"x"`, 1), "null")
	}
	return out
}

// aPath is a path, most often one of a tree that there is.
func (m *maker) aPath(of string) string {
	if g, ok := m.x.trees[of]; ok && m.n(3) > 0 {
		l, _ := path.Leaves(g.s, g.typ, g.v)
		p := pick(m, l...)
		if m.one(3) {
			p = p[:m.n(len(p)+1)]
		}
		return strings.TrimRight(p, ".")
	}
	return pick(m, "", "a", "b", "c", "d", "g", "e", "g.a", "g.c", "c[0]", "c[9]", `d["7"]`, `d["7"].m`, "d[7]", "z", "a.b", "x", "m", "d.x", "g.d.m", "k")
}

// someBytes are bytes of a message that there may be, in digits.
func (m *maker) someBytes() []byte {
	if l := slices.Sorted(maps.Keys(m.x.trees)); len(l) > 0 && m.one(2) {
		g := m.x.trees[pick(m, l...)]
		b, _ := encode.New(g.s).Encode(g.typ, g.v)
		if len(b) > 0 && m.one(3) {
			b[m.n(len(b))] ^= byte(1 << m.n(8))
		}
		return b
	}
	return []byte(pick(m, "", "\x08\x05", "\x08\x00", "\x08\x05\x08\x07", "\x1a\x02\x02\x01", "\x18\x02", "\x78\x01", "\x22\x00", "\x08", "sigregs", "sigstrm\x01"))
}

// argument is a word for a place of a row, when those ahead of it are known.
func (m *maker) argument(r row, at int, words []string) string {
	switch need := r.need(at); need {
	case "S", "T", "B", "P", "E":
		return m.named(need)
	case "N", "W", "R":
		return pick(m, "1", "2", "1", "2", "3", "0", "4", "5", "6", "7", "001", "256", "257", "x", "", "-1", "1234567890", "999999999")
	case "TYPE":
		return pick(m, "p.M", "p.M", "p.M", "p.M", "p.M", "p.N", "p.N", "p.E", "M", "", repeated("n", 256))
	case "FILE":
		return pick(m, "f", "f", "f", "f", "g", "")
	case "PATH":
		if r.more {
			return pick(m, "a", "b", "c", "d", "g", "e", "d.x", "g.a", "d.m.a", "g.g", "", "z", "c[0]", "x", "m.a")
		}
		return m.aPath(words[0])
	case "DIGITS":
		if len(m.digests) > 0 && r.name != "hex" && m.n(8) > 0 {
			return m.digests[max(0, len(m.digests)-1-m.n(4))]
		}
		if m.one(20) {
			return pick(m, "0", "0G", "00", "AB", "zz", "")
		}
		return digest.Hex(m.someBytes())
	case "SUBJECT":
		return pick(m, "s", "s", "s", "r", "", "sub ject", repeated("s", 256))
	case "TEXT":
		switch r.name {
		case "source":
			return m.text()
		case "json":
			return m.aJson(words[2], 2)
		}
		return string(m.someBytes())
	}
	return m.name()
}

// spelled writes a word in one of the ways in which it may stand.
func (m *maker) spelled(w string) string {
	if l, e := secondWords(w); e == api.OK && len(l) == 1 && l[0] == w && m.one(2) {
		return w
	}
	out := `"`
	for _, c := range []byte(w) {
		switch {
		case m.one(20):
			out += fmt.Sprintf(`\x%02`+pick(m, "x", "X"), c)
		case c == '\t' || c == '\n' || c == '"' || c == '\\' || c < 32 || c == 127:
			out += secondByte(int(c))
		default:
			out += string([]byte{c})
		}
	}
	return out + `"`
}

// reading are the words of a read, most often of versions that there are and a blob that the one of them may have written.
func (m *maker) reading() []string {
	l := m.x.reg.List()
	if len(l) == 0 {
		return []string{"read", "s", "1", "1", m.named("B"), m.name()}
	}
	s := pick(m, l...)
	wrote, reads := 1+m.n(3), 1+m.n(3)
	if n := len(s.Versions); n > 0 {
		reads = s.Versions[n-1]
	}
	blob := m.named("B")
	by, _ := m.x.reg.Get(s.Name, wrote)
	if schema, bad := bind.Load(by.Files); bad.Err == api.OK {
		for _, name := range slices.Sorted(maps.Keys(m.x.blobs)) {
			if _, e := strict.Check(schema, by.Type, m.x.blobs[name]); e == api.OK && m.n(6) > 0 {
				blob = name
			}
		}
	}
	return []string{"read", s.Name, fmt.Sprint(wrote), fmt.Sprint(reads), blob, m.name()}
}

// mending are the words of a mend or an unpack, most often of a blob that is a stream.
func (m *maker) mending() []string {
	blob := m.named("B")
	for _, name := range slices.Sorted(maps.Keys(m.x.blobs)) {
		if _, _, e := stream.Look(m.x.blobs[name]); e == api.OK && m.n(6) > 0 {
			blob = name
		}
	}
	return []string{pick(m, "mend", "unpack"), blob, m.name()}
}

// command is a line of the table, most often right.
func (m *maker) command() string {
	if m.one(12) {
		words := m.mending()
		if m.one(2) {
			words = m.reading()
		}
		return line(words...)
	}
	r := pick(m, rows()...)
	if m.one(3) {
		r = m.x.table[pick(m, "json", "source", "load", "strict", "merge", "get", "register", "diff", "open", "commit", "verify", "pack", "unpack", "apply", "read")]
	}
	count := len(r.needs)
	if r.more {
		count = r.least() + m.n(4)
	}
	if m.one(30) {
		count = max(0, count+m.n(3)-1)
	}
	var words []string
	for i := range count {
		if i >= len(r.needs) && !r.more {
			words = append(words, "more")
			continue
		}
		words = append(words, m.argument(r, i, words))
	}
	l := []string{pick(m, "", "", " ", "\t") + m.spelled(r.name)}
	for _, w := range words {
		l = append(l, m.spelled(w))
	}
	return strings.Join(l, pick(m, " ", " ", "\t", "  ", " \t ")) + pick(m, "", "", "", " ", "\t", " # more", " #")
}

// line is a line of a script.
func (m *maker) line() string {
	if m.one(30) {
		return pick(m, "", " ", "# nothing", "frob", `"`, "a\x00", "\\", `"load"s`, "load #s", "x y z", "load s\r")
	}
	return m.command()
}

// begin are lines with which a script has something of each kind.
func (m *maker) begin() []string {
	l := []string{source("a", "f", proto+"package p; "+m.body()), "load a", source("b", "f", proto+"package p; "+m.body()), "load b"}
	for _, name := range []string{"a", "b", "c"} {
		typ := pick(m, "p.M", "p.M", "p.N")
		l = append(l, line("json", name, pick(m, "a", "b"), typ, m.aJson(typ, 2)))
	}
	return append(l, "encode a a", "open a \"\" a", "diff a b a", "register s a p.M", "pack b a p.M 2 a b c", "commit a")
}

// script is lines, and what the second reading answers to each of them.
func (m *maker) script(n int) (lines, want []string) {
	var ahead []string
	if !m.one(8) {
		ahead = m.begin()
	}
	for i := range n {
		var l string
		if i < len(ahead) {
			l = ahead[i]
		} else {
			l = m.line()
		}
		told := m.x.answer(l)
		for _, w := range strings.Fields(told) {
			if len(w) == 64 && strings.Trim(w, "0123456789abcdef") == "" {
				m.digests = append(m.digests, w)
			}
		}
		lines, want = append(lines, l), append(want, told)
	}
	return lines, want
}

func TestMadeScripts(t *testing.T) { // P2001 to P2005: scripts from a seed, by both readings; every command is done, and refused
	t.Parallel()
	done, refused := map[string]int{}, map[string]int{}
	for seed := range int64(2500) {
		m := newMaker(seed)
		lines, want := m.script(20 + m.n(80))
		script := strings.Join(lines, "\n")
		if len(script) > api.MaxScript {
			continue
		}
		got := strings.Split(shell.Run(script), "\n")
		for i, w := range want {
			if i >= len(got) || got[i] != w {
				t.Fatalf("P2005: seed %d, line %d, %.300s: %.300q, want %.300q", seed, i, lines[i], got[min(i, len(got)-1)], w)
			}
			if words, e := secondWords(lines[i]); e == api.OK && len(words) > 0 && w != "command" && w != "none" {
				if strings.HasPrefix(w, "ok") || strings.HasPrefix(w, "break") {
					done[words[0]]++
				} else {
					refused[words[0]]++
				}
			}
		}
	}
	for _, r := range rows() {
		if done[r.name] < 100 {
			t.Errorf("%s was done %d times", r.name, done[r.name])
		}
	}
	for _, name := range []string{"load", "compat", "json", "merge", "get", "clear", "keep", "strip", "project", "hex", "strict", "loose", "canon", "pack", "unpack", "mend", "open", "verify", "register", "try", "rule", "drop", "find", "read", "reopen", "diff", "apply", "undo"} {
		if refused[name] < 20 {
			t.Errorf("%s was refused %d times", name, refused[name])
		}
	}
}

func TestMadeWordsBack(t *testing.T) { // P2001, P2002: words that are spelled in any way are told as they were
	for seed := range int64(3000) {
		m := newMaker(seed)
		var want, l []string
		for range m.n(6) {
			w := m.name()
			if m.one(2) {
				w = string(m.someBytes()) + pick(m, "", "#", `"`, `\`, "é", "\x00\x7f")
			}
			want, l = append(want, w), append(l, m.spelled(w))
		}
		wordsAre(t, strings.Join(l, pick(m, " ", "\t", " \t")), want, api.OK)
	}
}

func TestShownIsRead(t *testing.T) { // P2005: what show tells is a word that json takes, and it is the same tree; so with dump and hex
	for seed := range int64(300) {
		m := newMaker(seed)
		text := m.aJson("p.M", 3)
		s := schema(t, proto+"package p; message M { int32 a = 1; string b = 2; repeated sint32 c = 3; map<string, N> d = 4; oneof o { bool e = 5; M g = 6; } } message N { uint64 x = 1; M m = 2; }")
		if _, bad := json.New(s).Parse("p.M", text); bad.Err != api.OK {
			continue
		}
		ahead := []string{source("s", "f", s.Texts()[0].Text), "load s", line("json", "t", "s", "p.M", text), "encode t b"}
		l := answers(t, append(slices.Clone(ahead), "show t", "dump b")...)
		digits := strings.TrimPrefix(strings.TrimPrefix(l[5], "ok"), " ")
		if digits == "" {
			digits = `""`
		}
		got := answers(t, append(slices.Clone(ahead), "json u s p.M "+strings.TrimPrefix(l[4], "ok "), "same t u", "hex c "+digits, "strict c s p.M v", "same v t")...)
		if want := []string{"ok", "ok yes", l[3], "ok", "ok yes"}; !slices.Equal(got[4:], want) {
			t.Fatalf("P2005: %s: %q, want %q", text, got[4:], want)
		}
	}
}
