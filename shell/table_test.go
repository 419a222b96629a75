package shell_test

import (
	"fmt"
	"slices"
	"strings"
	"testing"
)

// The chapter's table: what stands behind each command's name.
const table = `source NAME FILE TEXT
load NAME
texts S
types S
mark S
json T1 S TYPE TEXT
show T
encode T B1
hex B1 DIGITS
bytes B1 TEXT
dump B
strict B S TYPE T1
loose B S TYPE T1
canon B S TYPE B1
same T T
merge T T T1
get T PATH
clear T PATH T1
keep T T1 PATH ..
strip T T1 PATH ..
leaves T
compat S TYPE S TYPE
project T S TYPE T1
sign T
commit T
open T PATH P1
verify S TYPE DIGITS P
pack B1 S TYPE N T ..
unpack B T1
mend B B1
register SUBJECT S TYPE
try SUBJECT S TYPE
rule SUBJECT N
drop SUBJECT N
list
find DIGITS
read SUBJECT W R B T1
log B1
reopen B
diff T T E1
apply T E T1
undo T E E1
changes S S`

// row is a command with what its words must be; more: of the last one there may be any number.
type row struct {
	name  string
	needs []string
	more  bool
}

// rows are the rows of the table.
func rows() []row {
	var l []row
	for _, text := range strings.Split(table, "\n") {
		w := strings.Fields(text)
		r := row{name: w[0], needs: w[1:]}
		if n := len(w) - 1; w[n] == ".." {
			r.needs, r.more = w[1:n], true
		}
		l = append(l, r)
	}
	return l
}

// least is how many words a row's command must have.
func (r row) least() int {
	if r.more {
		return len(r.needs) - 1
	}
	return len(r.needs)
}

// fits says whether so many words may stand behind the command.
func (r row) fits(count int) bool {
	return count == r.least() || r.more && count > r.least()
}

// need is what the word at a place must be.
func (r row) need(at int) string { return r.needs[min(at, len(r.needs)-1)] }

// furnished are lines after which the store has things of each kind, under names that no other kind has: schemas s and q, trees t and u, blobs b (t's bytes), m (a stream) and g (a log), a proof p, edits e; sources under way for w; and a subject x with one version.
func furnished(t testing.TB) []string {
	t.Helper()
	l := []string{
		source("s", "f", small), "load s", source("q", "f", wider), "load q", source("w", "f", small),
		line("json", "t", "s", "p.M", `{"a":5,"b":"hi","c":[1,-1],"d":{"k":{"a":1}}}`), line("json", "u", "s", "p.M", `{"a":6,"c":[1,2,-1],"g":{}}`),
		"encode t b", "pack m s p.M 2 t u t", "open t c[1] p", "diff t u e", "register x s p.M", "log g",
	}
	for i, got := range answers(t, l...) {
		if got != "ok" && !strings.HasPrefix(got, "ok ") {
			t.Fatalf("%.100s: %s", l[i], got)
		}
	}
	return l
}

// rightWords are words for each row of the table, with what is answered behind furnished; where that is not a matter of this test, its beginning and two dots.
func rightWords(t testing.TB) map[string][2]string {
	l := answers(t, append(furnished(t), "commit t", "mark s")...)
	root, mark := l[len(l)-2][3:], l[len(l)-1][3:]
	return map[string][2]string{
		"source": {`w g ""`, "ok 2"}, "load": {"w", "ok 1 1"}, "texts": {"s", `ok "p" "syntax..`}, "types": {"s", `ok "p.M"`}, "mark": {"s", "ok " + mark}, "json": {"n s p.M {}", "ok"}, "show": {"t", `ok "{\"a\":5,..`},
		"encode": {"u n", "ok 9"}, "hex": {"n 00ff", "ok 2"}, "bytes": {"n abc", "ok 3"}, "dump": {"b", "ok 0805120268691a02020122070a016b12020801"}, "strict": {"b s p.M n", "ok"}, "loose": {"b s p.M n", "ok"}, "canon": {"b s p.M n", "ok 19"},
		"same": {"t u", "ok no"}, "merge": {"t u n", "ok"}, "get": {"t a", "ok num 5"}, "clear": {"t a n", "ok"}, "keep": {"t n a c", "ok"}, "strip": {"t n a c", "ok"}, "leaves": {"t", `ok "a" "b" "c[0]"..`},
		"compat": {"s p.M q p.M", "ok"}, "project": {"t q p.M n", "ok"}, "sign": {"t", "ok .."}, "commit": {"t", "ok " + root}, "open": {"t a n", "ok 1"}, "verify": {"s p.M " + root + " p", "ok"},
		"pack": {"n s p.M 2 t u", "ok .."}, "unpack": {"m n", "ok 3 0"}, "mend": {"m n", "ok .."}, "register": {"y s p.M", "ok 1"}, "try": {"x q p.M", "ok 0"}, "rule": {"x 3", "ok"}, "drop": {"x 1", "ok"}, "list": {"", `ok "x" 1 1`},
		"find": {mark, `ok "x" 1`}, "read": {"x 1 1 b n", "ok"}, "log": {"n", "ok .."}, "reopen": {"g", "ok .."}, "diff": {"t u n", "ok 5"}, "apply": {"t e n", "ok"}, "undo": {"t e n", "ok 5"}, "changes": {"s q", "ok .."},
	}
}

// behind are the answers to lines behind furnished.
func behind(t testing.TB, lines ...string) []string {
	t.Helper()
	ahead := furnished(t)
	return answers(t, slices.Concat(ahead, lines)...)[len(ahead):]
}

// fates looks at the answers to lines each of which is played by itself behind furnished, with its answer behind it.
func fates(t *testing.T, promise string, pairs ...string) {
	t.Helper()
	lines, want := halves(pairs)
	for i := range lines {
		if got := behind(t, lines[i])[0]; got != want[i] {
			t.Errorf("%s: %.200s: %.200q, want %.200q", promise, lines[i], got, want[i])
		}
	}
}

func TestTable(t *testing.T) { // P2004, P2005: every command of the table with the right words, bare and quoted; there are as many as the table has
	right := rightWords(t)
	if len(right) != len(rows()) || len(rows()) != 43 {
		t.Fatal(len(right), len(rows()))
	}
	for _, r := range rows() {
		words := strings.Fields(right[r.name][0])
		if !r.fits(len(words)) {
			t.Fatal(r, words)
		}
		for i, w := range words {
			words[i] = strings.ReplaceAll(w, `""`, "")
		}
		quoted := line(append([]string{word(r.name)}, words...)...)
		for _, l := range []string{r.name + " " + right[r.name][0], quoted, "\t" + quoted + " \t# " + quoted} {
			got := behind(t, l)[0]
			want := right[r.name][1]
			if front, cut := strings.CutSuffix(want, ".."); got != want && (!cut || !strings.HasPrefix(got, front)) {
				t.Errorf("P2005: %s: %.200s, want %.200s", l, got, want)
			}
		}
	}
}

func TestHowManyWords(t *testing.T) { // P2004: one word fewer, one more, none, many more
	right := rightWords(t)
	for _, r := range rows() {
		words := strings.Fields(right[r.name][0])
		for n := range len(words) + 3 {
			l := slices.Concat([]string{r.name}, words, []string{"x", "x", "x"})[:n+1]
			got := behind(t, strings.Join(l, " "))[0]
			if (got == "command") == r.fits(n) {
				t.Errorf("P2004: %s with %d words: %.100s", r.name, n, got)
			}
		}
		if r.more {
			continue
		}
		for _, more := range []string{" x", ` ""`, " t", " 1", " s s s s s s"} {
			if got := behind(t, r.name+" "+right[r.name][0]+more)[0]; got != "command" {
				t.Errorf("P2004: %s with %s too much: %.100s", r.name, more, got)
			}
		}
	}
}

func TestNamesOfNothing(t *testing.T) { // P2004: each word that must name a thing: of no thing, of a thing of another kind, of sources under way
	kinds := map[string][]string{"S": {"s", "q"}, "T": {"t", "u"}, "B": {"b", "m", "g"}, "P": {"p"}, "E": {"e"}}
	right := rightWords(t)
	for _, r := range rows() {
		words := strings.Fields(right[r.name][0])
		for i := range words {
			need := r.need(i)
			if kinds[need] == nil {
				continue
			}
			others := []string{"w", "x", "none", `""`, "T", `"t "`, "1", "f"}
			for kind, names := range kinds {
				if kind != need {
					others = append(others, names...)
				}
			}
			for _, other := range others {
				l := slices.Clone(words)
				l[i] = other
				if got := behind(t, r.name+" "+strings.Join(l, " "))[0]; got != "none" {
					t.Errorf("P2004: %s with %s at %d: %.100s, want none", r.name, other, i, got)
				}
			}
		}
	}
}

func TestNumbers(t *testing.T) { // P2004: one to nine decimal digits, and nothing else; ahead of names of nothing, wherever those stand
	bad := []string{`""`, "-1", "+1", "-0", "1234567890", "0000000001", "x", "1x", "x1", "1 ", " 1", "1.0", "0x1", "1_0", "١", "1e3", "99999999999999999999", "1\u0300", "½"}
	for _, n := range bad {
		if n != `""` {
			n = word(n)
		}
		for _, l := range []string{"pack n s p.M " + n + " t", "pack n none p.M " + n + " t", "pack n s p.M " + n + " none", "pack n s none " + n, "rule x " + n, "rule none " + n, "drop x " + n, "drop none " + n, "read x " + n + " 1 b n", "read x 1 " + n + " b n", "read x " + n + " " + n + " none n", "read none 1 " + n + " none n"} {
			if got := behind(t, l)[0]; got != "command" {
				t.Errorf("P2004: %s: %s, want command", l, got)
			}
		}
	}
	fates(t, "P2004",
		"rule x 0", "ok", "rule x 6", "ok", "rule x 7", "rule", "rule x 12", "rule", "rule x 123", "rule", "rule x 1234", "rule", "rule x 12345", "rule", "rule x 123456", "rule", "rule x 1234567", "rule", "rule x 12345678", "rule", "rule x 123456789", "rule", "rule x 999999999", "rule",
		"rule x 000000001", "ok", "rule x 01", "ok", `rule x "3"`, "ok", `rule x "\x33"`, "ok", "drop x 000000001", "ok", "drop x 0", "version", "drop x 2", "version", "drop x 999999999", "version",
		"read x 001 01 b n", "ok", "read x 0 1 b n", "version", "read x 1 999999999 b n", "version", "pack n s p.M 0", "arg 0", "pack n s p.M 256", fmt.Sprint("ok ", headLen(t, small, "p.M")), "pack n s p.M 000000256", fmt.Sprint("ok ", headLen(t, small, "p.M")), "pack n s p.M 257", "arg 0", "pack n s p.M 999999999", "arg 0",
	)
}

func TestTwoRefused(t *testing.T) { // P2004, P5: which of two refusals is told
	fates(t, "P2004",
		// The first word ahead of the others, Words ahead of all.
		"frob none", "command", `frob "`, "command", `show none "`, "command", `show t "`, "command", "", "", `""`, "command",
		// How many, ahead of what.
		"show none none", "command", "same none", "command", "rule x", "command", "rule x y z", "command", "pack n none p.M", "command", "keep none", "command",
		// Numbers ahead of names.
		"pack n none p.M x", "command", "pack n none none 10000000000 none", "command", "read x y 1 none n", "command", "read x 1 y none n", "command", "rule none x", "command",
		// Names from the left: all are none; none ahead of what the call says.
		"same none none", "none", "same t none", "none", "same none t", "none", "merge t none n", "none", "merge none t n", "none", "compat none none none none", "none", "compat s none none none", "none", "compat s none q none", "name", "strict none none p.M n", "none", "strict b none p.M n", "none", "strict none s none n", "none", "strict b s none n", "name 0", "verify none p.M zz p", "none", "verify s p.M zz none", "none", "verify s none zz p", "hex", "verify s none 00 p", "name", "pack n s none 0 none", "none", "pack n s none 0 t", "name 0", "pack n s none 0 t t none t", "none", "read none 1 1 none n", "none", "read none 1 1 b n", "subject", "json n none none x", "none", "json n s none x", "name 0", "project t none p.M n", "none", "project none q p.M n", "none", "register \"\" none p.M", "none", "register \"\" s none", "subject", "try x none none", "none", "apply t none n", "none", "apply none e n", "none", "undo t none n", "none", "diff t none n", "none", "changes s none", "none", "changes none s", "none", "canon b none p.M n", "none", "unpack none n", "none", "mend none n", "none", "reopen none", "none", "open none a n", "none",
	)
}

func TestNoCommands(t *testing.T) { // P2004: what is no command of the table
	for _, name := range []string{"", "Load", "LOAD", "loads", "loa", "load ", " load", "load\n", "frob", "help", "quit", "view", "query", "NAME", "..", "S", "T", "break", "ok", "long", "add", "Source", "ſource", "unload", "set", "sources"} {
		for _, more := range []string{"", " s", " s t", " a b c"} {
			if got := last(t, word(name)+more); got != "command" {
				t.Errorf("P2004: %q%s: %q", name, more, got)
			}
		}
	}
}

func TestNames(t *testing.T) { // P2004: a name is any word; things of unlike kinds may have one name
	names := []string{"a", "", " ", "#", "\x00", "\n", "\"", "\\", "é", "\xff", "..", "S", "T1", "1", "-", repeated("n", 300)}
	for _, name := range names {
		n := word(name)
		plays(t, "source "+n+" f "+word(small), "ok 1", "load "+n, "ok 1 1", "json "+n+" "+n+" p.M {\"a\":1}", "command", "json "+n+" "+n+" p.M "+word(`{"a":1}`), "ok", "encode "+n+" "+n, "ok 2", "open "+n+" a "+n, "ok 1", "strip "+n+" z a", "ok", "diff "+n+" z "+n, "ok 1", "source "+n+" f x", "ok 1",
			"types "+n, `ok "p.M"`, "get "+n+" a", "ok num 1", "dump "+n, "ok 0801", "verify "+n+" p.M 00 "+n, "proof", "apply "+n+" "+n+" y", "ok", "show y", `ok "{}"`, "same y z", "ok yes", "load "+n, "syntax 0 0 \"\"", "types "+n, `ok "p.M"`)
	}
	// Names that differ in little are of unlike things.
	plays(t, "bytes a 1", "ok 1", "bytes A 22", "ok 2", `bytes "a " 333`, "ok 3", `bytes "a\x00" 4444`, "ok 4", "dump a", "ok 31", "dump A", "ok 3232", `dump "a "`, "ok 333333", `dump "a\x00"`, "ok 34343434", "dump b", "none", `dump "A "`, "none", `dump ""`, "none")
}
