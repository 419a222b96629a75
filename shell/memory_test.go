package shell_test

import (
	"cmp"
	"runtime"
	"slices"
	"strings"
	"testing"
	"unsafe"

	"sigil/api"
	"sigil/shell"
)

// lent is a text over bytes that can be changed behind the program's back, with more bytes behind it.
func lent(s, more string) (string, []byte) {
	b := append([]byte(s), more...)
	if len(s) == 0 {
		return "", b
	}
	return unsafe.String(&b[0], len(s)), b
}

// turned turns all bits over.
func turned(b []byte) {
	for i := range b {
		b[i] ^= 0xff
	}
}

func TestBehindScript(t *testing.T) { // P2, P3: what stands behind a script, or a line, in memory changes nothing, and is not changed
	for seed := range int64(300) {
		lines, _ := newMaker(seed).script(30)
		script := strings.Join(lines, "\n")
		want := shell.Run(script)
		for _, more := range []string{"", "\n", "x", "\nlist\n", `"`, "\\", strings.Repeat("\nlist", 600), "1", "\x00"} {
			in, b := lent(script, more)
			if got := shell.Run(in); got != want {
				t.Fatalf("P3: with %.10q behind it: %.300q, want %.300q", more, got, want)
			}
			if string(b) != script+more {
				t.Fatal("P2: what was handed in is changed")
			}
		}
		for _, l := range lines {
			words, e := shell.Words(l)
			for _, more := range []string{"", " x", "x", `"`, `41"`, "\\", "#"} {
				in, b := lent(l, more)
				if got, bad := shell.Words(in); bad != e || !slices.Equal(got, words) || string(b) != l+more {
					t.Fatalf("P3: Words(%q) with %q behind it: %q, %v, want %q, %v", l, more, got, bad, words, e)
				}
			}
		}
	}
}

func TestNotKept(t *testing.T) { // P2: who changes what was handed in changes no answer
	for seed := range int64(300) {
		lines, _ := newMaker(seed).script(30)
		script := strings.Join(lines, "\n")
		want := shell.Run(script)
		in, b := lent(script, "room")
		got := shell.Run(in)
		turned(b)
		if got != want {
			t.Fatalf("P2: an answer is changed by who changes the script: %.300q, want %.300q", got, want)
		}
		for _, l := range lines {
			words, e := secondWords(l)
			in, b := lent(l, "room")
			got, bad := shell.Words(in)
			turned(b)
			if bad != e || !slices.Equal(got, words) {
				t.Fatalf("P2: words are changed by who changes the line: %q, want %q", got, words)
			}
			in, b = lent(l, "room")
			q := shell.Quote(b[:len(l)])
			turned(b)
			if want := word(l); q != want {
				t.Fatalf("P2: a quoted word is changed by who changes the bytes: %q, want %q", q, want)
			}
			runtime.KeepAlive(in)
		}
	}
}

func TestWordsOwned(t *testing.T) { // P2: a list of words is its own, its spare room too
	for _, l := range []string{"", "a", "a b", "a b c", "a b c d e", `"a" "b" c`, strings.Repeat("x ", 100), "#", " "} {
		first, _ := shell.Words(l)
		second, _ := shell.Words(l)
		want := slices.Clone(second)
		for i := range first[:cap(first)] {
			first[:cap(first)][i] = "spoilt"
		}
		third, e := shell.Words(l)
		if e != api.OK || !slices.Equal(second, want) || !slices.Equal(third, want) {
			t.Errorf("P2: Words(%q) = %q, %q, want %q", l, second, third, want)
		}
		for _, in := range second[len(second):cap(second)] {
			if in != "" {
				t.Errorf("P2: in the spare room of Words(%q) stands %q", l, in)
			}
		}
	}
}

// stretch is a piece of memory.
type stretch struct{ from, to uintptr }

func stretchOf(s string) stretch {
	from := uintptr(unsafe.Pointer(unsafe.StringData(s)))
	return stretch{from, from + uintptr(len(s))}
}

// disjoint says whether no two pieces of memory meet. One byte alone may be a text of the library's own, which never changes.
func disjoint(l []stretch) bool {
	l = slices.DeleteFunc(l, func(p stretch) bool { return p.to-p.from <= 1 })
	slices.SortFunc(l, func(p, q stretch) int { return cmp.Compare(p.from, q.from) })
	for i := 1; i < len(l); i++ {
		if l[i].from < l[i-1].to {
			return false
		}
	}
	return true
}

func TestNewMemory(t *testing.T) { // P2: answers share no memory with what was handed in, nor with one another
	for seed := range int64(400) {
		lines, _ := newMaker(seed).script(12)
		for _, l := range append(lines, `ab "cd" ef "g\x00h" ""`, "long-word", `"quoted word"`) {
			first, _ := shell.Words(l)
			second, _ := shell.Words(l)
			b := append([]byte{}, l...) // A conversion alone may be none: the compiler sees that it is not changed.
			all := []stretch{stretchOf(l), stretchOf(unsafe.String(unsafe.SliceData(b), len(b))), stretchOf(shell.Quote(b)), stretchOf(shell.Quote(b))}
			for _, w := range slices.Concat(first, second) {
				all = append(all, stretchOf(w))
			}
			if !disjoint(all) {
				t.Fatalf("P2: memory is shared: Words(%q)", l)
			}
			runtime.KeepAlive([]any{first, second, b})
		}
		script := strings.Join(lines, "\n")
		first, second := shell.Run(script), shell.Run(script)
		if !disjoint([]stretch{stretchOf(script), stretchOf(first), stretchOf(second)}) {
			t.Fatal("P2: memory is shared: Run")
		}
	}
}

func TestQuoteKeepsBytes(t *testing.T) { // P2: Quote changes nothing of its bytes, and sees nothing of their spare room
	for _, text := range []string{"", "a", "\x00\"\\", "é\n", strings.Repeat("ab\xff", 1000)} {
		b := append([]byte(text), `" room`...)
		want := string(b)
		if got := shell.Quote(b[:len(text)]); got != shell.Quote([]byte(text)) || string(b) != want {
			t.Errorf("P2: Quote(%.20q) = %.40s; the bytes are %.20q now", text, got, b)
		}
	}
}

func TestLittleKept(t *testing.T) { // P2, P2006: a run holds nothing once it has answered; words hold no more than themselves
	used := func() uint64 {
		var m runtime.MemStats
		runtime.GC()
		runtime.ReadMemStats(&m)
		return m.HeapAlloc
	}
	before := used()
	var kept []any
	for range 200 {
		large := strings.Repeat("x", 30000)
		words, e := shell.Words("a b # " + large)
		if e != api.OK || len(words) != 2 {
			t.Fatal(words, e)
		}
		told := shell.Run("bytes b " + large + "\nbytes c " + large + "\nlist")
		if told != "ok 30000\nok 30000\nok\n" {
			t.Fatal(told)
		}
		kept = append(kept, words, told)
	}
	if after := used(); after > before+3<<20 {
		t.Errorf("P2: small answers hold %d bytes", after-before)
	}
	runtime.KeepAlive(kept)
}
