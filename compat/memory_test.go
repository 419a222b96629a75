package compat_test

import (
	"fmt"
	"runtime"
	"slices"
	"strings"
	"sync"
	"testing"
	"unsafe"

	"sigil/api"
	"sigil/compat"
)

// answers are what the calls say to a question.
type answers struct {
	first  api.Break
	all    []api.Break
	pairs  []api.Pair
	errors [3]api.Errno
}

func (q question) answers() answers {
	var a answers
	a.first, a.errors[0] = q.check()
	a.all, a.errors[1] = q.all()
	a.pairs, a.errors[2] = q.pairs()
	return a
}

// told tells answers.
func (a answers) told() string {
	return told(a.first) + "; " + toldAll(a.all) + "; " + toldPairs(a.pairs) + fmt.Sprint(a.errors)
}

// spoil writes over all lists of the answers, their spare room too.
func (a answers) spoil() {
	paths := [][]int{a.first.Path}
	for _, b := range a.all[:cap(a.all)] {
		paths = append(paths, b.Path)
	}
	for _, p := range a.pairs[:cap(a.pairs)] {
		paths = append(paths, p.Path)
	}
	for _, path := range paths {
		for i := range path[:cap(path)] {
			path[:cap(path)][i] = -9
		}
	}
	for i := range a.all[:cap(a.all)] {
		a.all[:cap(a.all)][i] = api.Break{Rule: -9, Old: "spoilt"}
	}
	for i := range a.pairs[:cap(a.pairs)] {
		a.pairs[:cap(a.pairs)][i] = api.Pair{Old: "spoilt"}
	}
}

// some questions of a seed, of which many have breaks.
func asked(t *testing.T, seed int64) []question {
	m := newMaker(seed)
	old := m.schema()
	return questions(t, old.text("A"), m.next(old, 4).text("B"))
}

// stretch is a piece of memory.
type stretch struct{ from, to uintptr }

// stretchOf is the memory of a list, its spare room too.
func stretchOf[T any](l []T) stretch {
	var one T
	from := uintptr(unsafe.Pointer(unsafe.SliceData(l)))
	return stretch{from, from + uintptr(cap(l))*unsafe.Sizeof(one)}
}

// stretches are the memory of all lists of the answers.
func (a answers) stretches() []stretch {
	l := []stretch{stretchOf(a.first.Path), stretchOf(a.all), stretchOf(a.pairs)}
	for _, b := range a.all {
		l = append(l, stretchOf(b.Path))
	}
	for _, p := range a.pairs {
		l = append(l, stretchOf(p.Path))
	}
	return slices.DeleteFunc(l, func(s stretch) bool { return s.from == s.to })
}

// apart looks whether no two pieces of memory have a byte in common.
func apart(t *testing.T, l []stretch) {
	t.Helper()
	slices.SortFunc(l, func(a, b stretch) int { return int(a.from) - int(b.from) })
	for i := 1; i < len(l); i++ {
		if l[i-1].to > l[i].from {
			t.Fatalf("P2: two lists share memory")
		}
	}
}

func TestNotShared(t *testing.T) { // P2: no two lists of the answers share memory, their spare room neither
	many := 0
	for seed := range int64(300) {
		for _, q := range asked(t, seed) {
			a, b := q.answers(), q.answers()
			l := slices.Concat(a.stretches(), b.stretches())
			if len(l) > 20 {
				many++
			}
			apart(t, l)
			runtime.KeepAlive([]answers{a, b})
		}
	}
	if many < 100 {
		t.Errorf("%d questions have many lists: too few", many)
	}
	q := between(t, ring("A", 30, "int32 x = 2;"), "A0", ring("B", 31, ""), "B0")
	a := q.answers()
	apart(t, a.stretches())
	runtime.KeepAlive(a)
}

func TestWrittenOver(t *testing.T) { // P2, P3: who writes over an answer, its spare room too, changes no other answer; asked again, the answer is the same
	for seed := range int64(300) {
		l := asked(t, seed)
		for _, q := range l {
			kept := q.answers()
			before := kept.told()
			q.answers().spoil()
			if again := q.answers(); kept.told() != before || again.told() != before {
				t.Fatalf("P2: what is done with one answer is seen in another: %s, want %s", again.told(), before)
			}
		}
	}
}

func TestNotKept(t *testing.T) { // P2: the names that are handed in are not kept: who changes them changes no answer
	for seed := range int64(200) {
		for _, q := range asked(t, seed) {
			want := q.answers().told()
			wrote, reads := []byte(q.old.name), []byte(q.now.name)
			lent := question{side{q.old.s, unsafe.String(&wrote[0], len(wrote))}, side{q.now.s, unsafe.String(&reads[0], len(reads))}}
			got := lent.answers()
			copy(wrote, "??????")
			copy(reads, "??????")
			if got.told() != want {
				t.Fatalf("P2: an answer is changed by who changes a name: %s, want %s", got.told(), want)
			}
			runtime.KeepAlive([][]byte{wrote, reads})
		}
	}
}

func TestSchemasStay(t *testing.T) { // P2: the schemas are as they were, whatever was asked and done with the answers
	for seed := range int64(100) {
		for _, q := range asked(t, seed) {
			whole := func(s side) string {
				var b strings.Builder
				for _, name := range s.s.Messages() {
					m, _ := s.s.Message(name)
					fmt.Fprintf(&b, "%+v", m)
				}
				return b.String() + fmt.Sprint(s.s.Texts())
			}
			before := whole(q.old) + whole(q.now)
			q.answers().spoil()
			if whole(q.old)+whole(q.now) != before {
				t.Fatal("P2: a schema is changed")
			}
		}
	}
}

func TestSayLeaves(t *testing.T) { // P2: what is handed to Say is not changed, its spare room neither, nor seen, nor kept
	path := []int{1, 2, 3, 4, 5}
	name := []byte("Name")
	b := api.Break{Rule: api.BType, Path: path[:2], Old: unsafe.String(&name[0], 4), New: "N"}
	said := compat.Say(b)
	if said != "Name -> N at 1.2: another type" || !slices.Equal(path, []int{1, 2, 3, 4, 5}) || string(name) != "Name" {
		t.Errorf("P2: %q, %v, %s", said, path, name)
	}
	copy(name, "????")
	path[0] = 9
	if said != "Name -> N at 1.2: another type" {
		t.Errorf("P2: what was said is now %q", said)
	}
	runtime.KeepAlive(name)
}

func TestAtTheSameTime(t *testing.T) { // P3: many that ask about the same schemas at a time
	var l []question
	for seed := range int64(20) {
		l = append(l, asked(t, seed)...)
	}
	var want []string
	for _, q := range l {
		want = append(want, q.answers().told())
	}
	var all sync.WaitGroup
	for i := range 8 {
		all.Go(func() {
			for k := range l {
				at := (k*7 + i) % len(l)
				if got := l[at].answers().told(); got != want[at] {
					t.Errorf("P3: %s, want %s", got, want[at])
					return
				}
			}
		})
	}
	all.Wait()
}

func TestNothingTold(t *testing.T) { // P4: beside an error, and where it is fine, nothing is told: Path is empty too
	q := of(t, "message M { int32 a = 1; }", "message M { int32 a = 1; }")
	for _, q := range []question{q, {side{q.old.s, "x"}, q.now}, {q.old, side{q.now.s, strings.Repeat("x", 256)}}} {
		if b, _ := q.check(); b.Rule != 0 || len(b.Path) > 0 || b.Old != "" || b.New != "" {
			t.Errorf("P4: Check tells %+v", b)
		}
	}
}
