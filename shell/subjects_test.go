package shell_test

import (
	"fmt"
	"slices"
	"strings"
	"testing"

	"sigil/api"
	"sigil/digest"
	"sigil/registry"
	"sigil/sign"
)

// versions are schemas a, b, c of the message M: b reads what a wrote, c neither of them.
func versions() []string {
	return slices.Concat(loaded("a", proto+"message M { int32 a = 1; }"), loaded("b", proto+"message M { int64 a = 1; string b = 2; }"), loaded("c", proto+"message M { string a = 1; }"))
}

func TestRegistry(t *testing.T) { // P2005: the registry through all its commands
	markA, markB := digest.Hex(sign.Schema(schema(t, proto+"message M { int32 a = 1; }"))), digest.Hex(sign.Schema(schema(t, proto+"message M { int64 a = 1; string b = 2; }")))
	playsBehind(t, versions(),
		"list", "ok", "log l", "ok 8", "find "+markA, "ok", "try s a M", "ok 0", "list", "ok", "register s a M", "ok 1", "list", `ok "s" 1 1`, "register s a M", "ok 1", "list", `ok "s" 1 1`, "try s b M", "ok 0", "register s b M", "ok 2", "register s c M", "refused", "try s c M", "ok 2", "register s a N", "name", `register "" a M`, "subject", "register "+repeated("s", 256)+" a M", "long", "register s a "+repeated("M", 256), "long", "try s a N", "name", `try "" a M`, "subject", "try "+repeated("s", 256)+" a M", "long",
		"list", `ok "s" 1 2`, "find "+markA, `ok "s" 1`, "find "+markB, `ok "s" 2`, "rule s 3", "ok", "list", `ok "s" 3 2`, "register s a M", "ok 1", "drop s 1", "ok", "list", `ok "s" 3 1`, "find "+markA, "ok", "register s a M", "refused", "try s a M", "ok 2", "drop s 1", "gone", "drop s 3", "version", "drop s 0", "version", "drop z 1", "subject", "rule s 7", "rule", "rule z 9", "subject", "rule "+repeated("s", 256)+" 1", "long", "drop "+repeated("s", 256)+" 1", "long",
		"hex m 0805", "ok 2", "read s 1 2 m t", "ok", "show t", `ok "{\"a\":\"5\"}"`, "read s 2 1 m u", "gone", "hex n 0800", "ok 2", "read s 1 2 n u", "zero", "read z 1 2 m u", "subject", "read s 3 2 m u", "version", "read s 1 3 m u", "version", "read "+repeated("s", 256)+" 1 2 m u", "long", "show u", "none", "find 00", "arg", "find 0", "hex", `find ""`, "arg", "find "+repeated("00", 32), "ok", "find "+repeated("00", 33), "arg",
		"rule s 0", "ok", "register s c M", "ok 3", "read s 1 3 m u", "compat", "register r b M", "ok 1", `register "q \"\n" b M`, "ok 1", "list", `ok "q \"\n" 1 1 "r" 1 1 "s" 0 2`, "find "+markB, `ok "q \"\n" 1 "r" 1 "s" 2`, "drop r 1", "ok", "list", `ok "q \"\n" 1 1 "r" 1 0 "s" 0 2`, "find "+markB, `ok "q \"\n" 1 "s" 2`, "register r c M", "ok 2",
	)
}

func TestReadType(t *testing.T) { // P2005: read: the tree has the schema and the type of the version that reads
	playsBehind(t, slices.Concat(loaded("a", proto+"message M { N n = 1; } message N { int32 x = 1; }"), loaded("b", proto+"message Other { Part n = 1; repeated bytes more = 2; } message Part { int64 x = 1; bytes y = 9; }")),
		"register s a M", "ok 1", "register s b Other", "ok 2", "load a", "ok 0 0", "load b", "ok 0 0", "hex m 0a020807", "ok 4", "read s 1 2 m t", "ok", "show t", `ok "{\"n\":{\"x\":\"7\"}}"`, "get t n", `ok message "{\"x\":\"7\"}"`, "get t more", "ok absent", "get t n.y", "ok absent", "sign t", "ok "+signOf(t), "read s 1 1 m t", "ok", "get t more", "nofield", "get t n", `ok message "{\"x\":7}"`, "read s 2 1 m t", "compat", "get t n", `ok message "{\"x\":7}"`, "drop s 1", "ok", "read s 1 2 m t", "ok", "get t more", "ok absent",
	)
}

// signOf is the digest of the tree that TestReadType reads.
func signOf(t *testing.T) string {
	t.Helper()
	s := schema(t, proto+"message Other { Part n = 1; repeated bytes more = 2; } message Part { int64 x = 1; bytes y = 9; }")
	d, e := sign.Message(s, "Other", treeOf(t, s, "Other", `{"n":{"x":"7"}}`))
	if e != api.OK {
		t.Fatal(e)
	}
	return digest.Hex(d)
}

func TestReopen(t *testing.T) { // P2005: log and reopen: the registry as it was, how many bytes hold; refused: it stays
	ahead := slices.Concat(versions(), []string{"log empty", "ok 8", "register s a M", "ok 1"})
	size := func(lines ...string) int {
		l := strings.Fields(last(t, append(first(ahead), lines...)...))
		n := 0
		fmt.Sscan(l[1], &n)
		return n
	}
	one, two := size("log l"), size("register s b M", "log l")
	playsBehind(t, ahead, "log one", fmt.Sprint("ok ", one), "register s b M", "ok 2", "log two", fmt.Sprint("ok ", two), "rule s 6", "ok", "drop s 2", "ok", "list", `ok "s" 6 1`,
		"reopen two", fmt.Sprint("ok ", two), "list", `ok "s" 1 2`, "log again", fmt.Sprint("ok ", two), "reopen one", fmt.Sprint("ok ", one), "list", `ok "s" 1 1`, "register s b M", "ok 2", "log again", fmt.Sprint("ok ", two), "reopen empty", "ok 8", "list", "ok", `bytes none ""`, "ok 0", "reopen two", fmt.Sprint("ok ", two), "reopen none", "ok 0", "list", "ok", "log again", "ok 8",
		"reopen two", fmt.Sprint("ok ", two), "bytes bad sigregx", "ok 7", "reopen bad", "log", "list", `ok "s" 1 2`, "bytes front sigregs", "ok 7", "reopen front", "ok 0", "list", "ok",
	)
	// A log that is cut off.
	l := answers(t, append(first(ahead), "register s b M", "log l", "dump l")...)
	digits := l[len(l)-1][3:]
	playsBehind(t, versions(), "hex l "+digits[:len(digits)-2], fmt.Sprint("ok ", two-1), "reopen l", fmt.Sprint("ok ", one), "list", `ok "s" 1 1`, "register s b M", "ok 2", "log l", fmt.Sprint("ok ", two), "dump l", "ok "+digits)
	// It is what package registry makes.
	r, _, _ := registry.Open(nil)
	r.Register("s", schema(t, proto+"message M { int32 a = 1; }").Texts(), "M")
	r.Register("s", schema(t, proto+"message M { int64 a = 1; string b = 2; }").Texts(), "M")
	if digits != digest.Hex(r.Log()) {
		t.Errorf("P2005: log: %.200s, want %.200s", digits, digest.Hex(r.Log()))
	}
}

func TestFull(t *testing.T) { // P2005: MaxSubjects subjects and one more
	pairs := versions()
	for i := range api.MaxSubjects {
		pairs = append(pairs, fmt.Sprint("register s", i, " a M"), "ok 1")
	}
	playsBehind(t, pairs, "register more a M", "full", "try more a M", "ok 0", "register s63 b M", "ok 2", "register s63 a M", "ok 1")
}
