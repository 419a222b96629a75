package shell_test

import (
	"slices"
	"strings"
	"sync"
	"testing"

	"sigil/api"
	"sigil/shell"
)

func TestRunsAlone(t *testing.T) { // P2006: nothing is left of one run in the next
	furnished(t)
	plays(t, "types s", "none", "types q", "none", "show t", "none", "dump b", "none", "dump m", "none", "list", "ok", "log l", "ok 8", "load w", "ok 0 0", "source w f x", "ok 1", "load s", "ok 0 0", "verify s p.M 00 p", "none", "json t s p.M {}", "name 0")
	pairs := loaded("s", small)
	plays(t, append(pairs, "json t s p.M {}", "ok", "apply t e u", "none", "rule x 1", "subject", "drop x 1", "subject")...)
}

func TestRunsAgain(t *testing.T) { // P2006, P3: a script is answered the same, whatever ran ahead of it
	t.Parallel()
	var scripts, want []string
	for seed := range int64(200) {
		lines, _ := newMaker(seed).script(60)
		scripts = append(scripts, strings.Join(lines, "\n"))
		want = append(want, shell.Run(scripts[seed]))
	}
	m := newMaker(77)
	for range 600 {
		i := m.n(len(scripts))
		if got := shell.Run(scripts[i]); got != want[i] {
			t.Fatalf("P2006: the script %d is answered otherwise: %.300q, want %.300q", i, got, want[i])
		}
		shell.Words(pick(m, "a b", `"`, `"a\x41"`))
		shell.Quote([]byte(pick(m, "a", "\x00", `"`)))
		shell.Run(repeated("x", pick(m, 1, api.MaxScript+1)))
	}
}

func TestRunsAtOnce(t *testing.T) { // P3: several runs at the same time
	t.Parallel()
	var scripts, want []string
	for seed := range int64(80) {
		lines, _ := newMaker(seed).script(50)
		scripts = append(scripts, strings.Join(lines, "\n"))
		want = append(want, shell.Run(scripts[seed]))
	}
	var group sync.WaitGroup
	for i := range 8 {
		group.Go(func() {
			for j := range scripts {
				k := (i*11 + j) % len(scripts)
				if got := shell.Run(scripts[k]); got != want[k] {
					t.Errorf("P3: with others: %.300q, want %.300q", got, want[k])
				}
			}
		})
	}
	group.Wait()
}

// everything are lines that tell all that a store furnished has.
func everything() []string {
	return []string{"texts s", "texts q", "show t", "show u", "show n", "dump b", "dump m", "dump g", "dump n", "verify s p.M 00 p", "verify s p.M 00 n", "apply t e zz", "show zz", "apply t n zz", "show zz", "list", "log zz", "dump zz", "source w f x", "source n f x", "types n", "show n.0"}
}

func TestRefusedMakesNothing(t *testing.T) { // P2005, P4: all there is, behind a line that is refused, is as it was ahead of it
	before := behind(t, everything()...)
	for _, l := range []string{
		"frob", "show none", "rule x y", `"`, `json t s p.M {"a":1}`, "json t s p.M {", "json n s p.M {", "json n s p.N {}", "json t s p.N {}", "strict m s p.M t", "loose m s p.M t", "strict m s p.M n", "loose m s p.N n", "canon m s p.M b", "canon m s p.M n", "hex b 0g", "hex n 0", "merge t none t", "clear t f t", "clear t z n", "keep t t z", "strip t n c[0]", "project t s none t", "project u q none n", "open t f p", "open t z n", "pack m s p.M 0 t", "pack n s p.N 1", "unpack b t", "unpack g n", "mend b m", "mend g n", "register x s none", `register "" s p.M`, "try y s none", "try x q p.M", "rule x 7", "rule y 1", "drop x 2", "drop y 1", "rule x 1", "register x q none", "find 0", "find 00", "read x 2 1 b t", "read x 1 1 m n", "reopen b", "reopen m", "apply u e t", "apply u e n", "undo u e e", "undo u e n", "verify s p.M 0 p", "leaves t", "commit t", "compat s p.M q p.M", "changes s q", "get t a", "same t u", "mark s", "types q", "find " + repeated("00", 32), "list",
	} {
		got := behind(t, slices.Concat([]string{l}, everything())...)
		if !slices.Equal(got[1:], before) {
			t.Errorf("P2005: behind %s, answered by %.100s: %.1000q, want %.1000q", l, got[0], got[1:], before)
		}
	}
}

func TestMakesOneThing(t *testing.T) { // P2005: what a line makes is all that it changes
	before := behind(t, everything()...)
	for l, changed := range map[string][]int{
		"bytes n abc": {8}, "json n s p.M {}": {4}, "open t a n": {10}, "diff t t n": {13, 14}, "source n f x": {19}, "load n": {20}, "load w": {18}, "hex b 00": {5}, "strip u t": {2, 11, 12, 13, 14}, "unpack m n": {21}, "register x q p.M": {15, 16, 17}, "rule x 3": {15, 16, 17}, "drop x 1": {15, 16, 17},
	} {
		got := behind(t, slices.Concat([]string{l}, everything())...)[1:]
		for i := range got {
			if got[i] != before[i] && !slices.Contains(changed, i) {
				t.Errorf("P2005: %s changes what %s tells: %.200s, was %.200s", l, everything()[i], got[i], before[i])
			}
		}
		if i := changed[0]; got[i] == before[i] {
			t.Errorf("P2005: behind %s: %s: %.200s as before", l, everything()[i], got[i])
		}
	}
}
