package order_test

import (
	"iter"
	"maps"
	"math"
	"math/rand"
	"slices"
	"strings"
	"testing"
	"time"

	"sigil/order"
)

// face is what the chapter lists: a signature that strays from it does not compile.
type face[K order.Key, V any] interface {
	Put(k K, v V) *order.Map[K, V]
	Drop(k K) *order.Map[K, V]
	Get(k K) (V, bool)
	Len() int
	At(i int) (K, V, bool)
	Rank(k K) (int, bool)
	Keys() []K
	Join(o *order.Map[K, V]) *order.Map[K, V]
	Only(o *order.Map[K, V]) *order.Map[K, V]
	Without(o *order.Map[K, V]) *order.Map[K, V]
	All() iter.Seq2[K, V]
	From(k K) iter.Seq2[K, V]
}

var (
	_ face[int, string]    = order.New[int, string]()
	_ face[uint64, []byte] = order.New[uint64, []byte]()
	_ face[string, func()] = order.New[string, func()]()
)

// check holds all that a map answers against what it should hold.
func check[K order.Key, V comparable](t *testing.T, what string, m *order.Map[K, V], want map[K]V) {
	t.Helper()
	keys := slices.Sorted(maps.Keys(want))
	if m.Len() != len(want) {
		t.Fatalf("P105: %s: Len %d, want %d", what, m.Len(), len(want))
	}
	if l := m.Keys(); !slices.Equal(l, keys) {
		t.Fatalf("P108: %s: Keys %v, want %v", what, l, keys)
	}
	for i, k := range keys {
		if v, ok := m.Get(k); v != want[k] || !ok {
			t.Fatalf("P104: %s: Get(%v) = %v, %v, want %v", what, k, v, ok, want[k])
		}
		if ak, v, ok := m.At(i); ak != k || v != want[k] || !ok {
			t.Fatalf("P106: %s: At(%d) = %v, %v, %v, want %v, %v", what, i, ak, v, ok, k, want[k])
		}
		if r, ok := m.Rank(k); r != i || !ok {
			t.Fatalf("P107: %s: Rank(%v) = %d, %v, want %d", what, k, r, ok, i)
		}
	}
	told(t, what, m.All(), keys, want)
}

// told holds a sequence against the keys that it should tell, in their order.
func told[K order.Key, V comparable](t *testing.T, what string, seq iter.Seq2[K, V], keys []K, want map[K]V) {
	t.Helper()
	i := 0
	for k, v := range seq {
		if i >= len(keys) || k != keys[i] || v != want[k] {
			t.Fatalf("P112: %s: the sequence's entry %d is %v, %v, want keys %v", what, i, k, v, keys)
		}
		i++
	}
	if i != len(keys) {
		t.Fatalf("P112: %s: the sequence ends behind %d entries, want %v", what, i, keys)
	}
}

func abc() *order.Map[int, string] {
	return order.New[int, string]().Put(3, "c").Put(1, "a").Put(2, "b")
}

// evens has the keys 0, 2, 4 .. below 2n, each with its half as its value.
func evens(n int) (*order.Map[int, int], map[int]int) {
	m, want := order.New[int, int](), map[int]int{}
	for i := range n {
		m, want[2*i] = m.Put(2*i, i), i
	}
	return m, want
}

func TestNew(t *testing.T) { // P101
	m := order.New[int, string]()
	if m == nil {
		t.Fatal("P101: New answers nil")
	}
	check(t, "New", m, nil)
	if v, ok := m.Get(0); v != "" || ok {
		t.Errorf("P104: Get of nothing: %q, %v", v, ok)
	}
	if k, v, ok := m.At(0); k != 0 || v != "" || ok {
		t.Errorf("P106: At of nothing: %d, %q, %v", k, v, ok)
	}
	if n, ok := m.Rank(0); n != 0 || ok {
		t.Errorf("P107: Rank in nothing: %d, %v", n, ok)
	}
	check(t, "Drop of nothing", m.Drop(0), nil)
	told(t, "From of nothing", m.From(math.MinInt), nil, nil)
}

func TestPut(t *testing.T) { // P102
	m := abc()
	check(t, "three", m, map[int]string{1: "a", 2: "b", 3: "c"})
	check(t, "a key that is there", m.Put(2, "x"), map[int]string{1: "a", 2: "x", 3: "c"})
	check(t, "the same value", m.Put(2, "b"), map[int]string{1: "a", 2: "b", 3: "c"})
	check(t, "a zero value", m.Put(2, ""), map[int]string{1: "a", 2: "", 3: "c"})
	check(t, "a zero key", m.Put(0, "z"), map[int]string{0: "z", 1: "a", 2: "b", 3: "c"})
	check(t, "the ends", m.Put(math.MinInt, "l").Put(math.MaxInt, "h"),
		map[int]string{math.MinInt: "l", 1: "a", 2: "b", 3: "c", math.MaxInt: "h"})
}

func TestDrop(t *testing.T) { // P103
	m := abc()
	check(t, "the first", m.Drop(1), map[int]string{2: "b", 3: "c"})
	check(t, "the middle", m.Drop(2), map[int]string{1: "a", 3: "c"})
	check(t, "the last", m.Drop(3), map[int]string{1: "a", 2: "b"})
	check(t, "all", m.Drop(2).Drop(1).Drop(3), nil)
	check(t, "one twice", m.Drop(2).Drop(2), map[int]string{1: "a", 3: "c"})
	check(t, "back again", m.Drop(2).Put(2, "y"), map[int]string{1: "a", 2: "y", 3: "c"})
	for _, k := range []int{0, 4, 7, -1, math.MinInt, math.MaxInt} {
		check(t, "what is not there", m.Drop(k), map[int]string{1: "a", 2: "b", 3: "c"})
	}
}

func TestGet(t *testing.T) { // P104
	m, want := evens(50)
	for k := -3; k < 105; k++ {
		v, ok := m.Get(k)
		if half, there := want[k]; v != half || ok != there {
			t.Errorf("P104: Get(%d) = %d, %v, want %d, %v", k, v, ok, half, there)
		}
	}
	p := order.New[string, any]().Put("", nil)
	if v, ok := p.Get(""); v != nil || !ok {
		t.Errorf("P104: a nil value: %v, %v, want nil, true", v, ok)
	}
	if v, ok := p.Get("x"); v != nil || ok {
		t.Errorf("P104: no value: %v, %v, want nil, false", v, ok)
	}
}

func TestLen(t *testing.T) { // P105
	m := order.New[int, int]()
	for i := range 40 {
		m = m.Put(i*7%40, i)
		if m.Len() != i+1 || m.Put(i*7%40, -1).Len() != i+1 || m.Drop(-1).Len() != i+1 {
			t.Fatalf("P105: Len %d behind %d keys", m.Len(), i+1)
		}
	}
	for i := range 40 {
		if m = m.Drop(i * 3 % 40); m.Len() != 39-i {
			t.Fatalf("P105: Len %d, want %d", m.Len(), 39-i)
		}
	}
}

func TestAt(t *testing.T) { // P106
	m := abc().Put(0, "z")
	for i, want := range []string{"z", "a", "b", "c"} {
		if k, v, ok := m.At(i); k != i || v != want || !ok {
			t.Errorf("P106: At(%d) = %d, %q, %v", i, k, v, ok)
		}
	}
	for _, i := range []int{-1, -4, 4, 5, 100, math.MinInt, math.MaxInt} {
		if k, v, ok := m.At(i); k != 0 || v != "" || ok {
			t.Errorf("P106: At(%d) = %d, %q, %v, want zeros", i, k, v, ok)
		}
	}
}

func TestRank(t *testing.T) { // P107
	m, want := evens(50)
	for k := -3; k < 105; k++ {
		below := min(max((k+1)/2, 0), 50)
		_, there := want[k]
		if n, ok := m.Rank(k); n != below || ok != there {
			t.Errorf("P107: Rank(%d) = %d, %v, want %d, %v", k, n, ok, below, there)
		}
	}
	if n, ok := m.Rank(math.MinInt); n != 0 || ok {
		t.Errorf("P107: Rank of the least = %d, %v", n, ok)
	}
	if n, ok := m.Rank(math.MaxInt); n != 50 || ok {
		t.Errorf("P107: Rank of the greatest = %d, %v", n, ok)
	}
}

func TestKeys(t *testing.T) { // P108, P2
	m, want := evens(20)
	a, b := m.Keys(), m.Keys()
	a = a[:cap(a)]
	for i := range a {
		a[i] = -1
	}
	_ = append(m.Keys(), -2)
	if !slices.Equal(b, slices.Sorted(maps.Keys(want))) {
		t.Errorf("P108: a list of keys changed with another one: %v", b)
	}
	check(t, "behind writing into the lists", m, want)
	c := m.Put(-1, 0).Keys()
	if len(c) != 21 || c[0] != -1 || len(m.Keys()) != 20 {
		t.Errorf("P108: keys of another map: %v", c)
	}
}

func TestJoin(t *testing.T) { // P109
	m, n := abc(), abc().Put(1, "x").Drop(3).Put(5, "e")
	check(t, "Join", m.Join(n), map[int]string{1: "x", 2: "b", 3: "c", 5: "e"})
	check(t, "Join the other way", n.Join(m), map[int]string{1: "a", 2: "b", 3: "c", 5: "e"})
	check(t, "Join with itself", m.Join(m), map[int]string{1: "a", 2: "b", 3: "c"})
	none := order.New[int, string]()
	check(t, "Join with none", m.Join(none), map[int]string{1: "a", 2: "b", 3: "c"})
	check(t, "Join of none", none.Join(m), map[int]string{1: "a", 2: "b", 3: "c"})
	check(t, "Join of none with none", none.Join(none), nil)
}

func TestOnly(t *testing.T) { // P110
	m, n := abc(), abc().Put(1, "x").Drop(3).Put(5, "e")
	check(t, "Only", m.Only(n), map[int]string{1: "a", 2: "b"})
	check(t, "Only the other way", n.Only(m), map[int]string{1: "x", 2: "b"})
	check(t, "Only itself", m.Only(m), map[int]string{1: "a", 2: "b", 3: "c"})
	none := order.New[int, string]()
	check(t, "Only none", m.Only(none), nil)
	check(t, "Only, of none", none.Only(m), nil)
	check(t, "Only others", m.Only(none.Put(9, "i")), nil)
}

func TestWithout(t *testing.T) { // P111
	m, n := abc(), abc().Put(1, "x").Drop(3).Put(5, "e")
	check(t, "Without", m.Without(n), map[int]string{3: "c"})
	check(t, "Without the other way", n.Without(m), map[int]string{5: "e"})
	check(t, "Without itself", m.Without(m), nil)
	none := order.New[int, string]()
	check(t, "Without none", m.Without(none), map[int]string{1: "a", 2: "b", 3: "c"})
	check(t, "Without, of none", none.Without(m), nil)
	check(t, "Without others", m.Without(none.Put(9, "i")), map[int]string{1: "a", 2: "b", 3: "c"})
}

// The three calls that take two maps, against plain maps, on trees of unlike sizes and with gaps of unlike places.
func TestTwoMaps(t *testing.T) { // P109, P110, P111, P113
	r := rand.New(rand.NewSource(1))
	for range 400 {
		m, a := some(r, r.Intn(60), 90)
		o, b := some(r, r.Intn(60), 1+r.Intn(90))
		both, only, without := maps.Clone(a), map[int]int{}, map[int]int{}
		for k, v := range b {
			both[k] = v
		}
		for k, v := range a {
			if _, there := b[k]; there {
				only[k] = v
			} else {
				without[k] = v
			}
		}
		check(t, "Join", m.Join(o), both)
		check(t, "Only", m.Only(o), only)
		check(t, "Without", m.Without(o), without)
		check(t, "the first of both", m, a)
		check(t, "the second of both", o, b)
	}
}

// some makes a map of n random puts of keys below the bound, no two values alike.
func some(r *rand.Rand, n, bound int) (*order.Map[int, int], map[int]int) {
	m, want := order.New[int, int](), map[int]int{}
	for range n {
		k, v := r.Intn(bound), r.Int()
		m, want[k] = m.Put(k, v), v
	}
	return m, want
}

func TestFrom(t *testing.T) { // P112
	m, want := evens(30)
	keys := m.Keys()
	for k := -2; k < 63; k++ {
		first := min(max((k+1)/2, 0), 30)
		told(t, "From", m.From(k), keys[first:], want)
	}
	told(t, "From the least", m.From(math.MinInt), keys, want)
	told(t, "From the greatest", m.From(math.MaxInt), nil, want)
	told(t, "From the greatest that is there", m.Put(math.MaxInt, 7).From(math.MaxInt), []int{math.MaxInt}, map[int]int{math.MaxInt: 7})
}

// A sequence that is left at any place tells nothing more, and the next time it begins anew.
func TestLeftEarly(t *testing.T) { // P112
	m, want := evens(20)
	keys := m.Keys()
	for from := range 20 {
		for _, seq := range []iter.Seq2[int, int]{m.All(), m.From(2 * from), m.From(2*from - 1)} {
			var all []int
			for k := range seq {
				all = append(all, k)
			}
			for stop := 1; stop <= len(all); stop++ {
				var l []int
				seq(func(k, v int) bool {
					l = append(l, k)
					return len(l) < stop
				})
				if !slices.Equal(l, all[:stop]) {
					t.Fatalf("P112: left behind %d entries it told %v", stop, l)
				}
			}
			told(t, "behind the early ends", seq, keys[20-len(all):], want)
		}
	}
}

func TestOneWithinTheOther(t *testing.T) { // P112
	m, want := evens(9)
	keys := m.Keys()
	for _, seq := range []iter.Seq2[int, int]{m.All(), m.From(-1)} {
		var outer []int
		for k := range seq {
			outer = append(outer, k)
			told(t, "the inner one", seq, keys, want)
			for range seq {
				break
			}
		}
		if !slices.Equal(outer, keys) {
			t.Errorf("P112: the outer one told %v", outer)
		}
	}
	seq := m.All()
	a, endA := iter.Pull2(seq)
	b, endB := iter.Pull2(seq)
	defer endA()
	defer endB()
	a()
	for _, want := range keys[1:] {
		if k, _, ok := a(); k != want || !ok {
			t.Fatalf("P112: by turns: %d, %v, want %d", k, ok, want)
		}
		b()
	}
}

// What is made of a map while a sequence of it goes on is not seen in the sequence.
func TestMeanwhile(t *testing.T) { // P112, P113
	m, want := evens(40)
	seq, tail := m.All(), m.From(30)
	n := m
	var l []int
	for k := range seq {
		l = append(l, k)
		n = n.Drop(k).Drop(k+2).Put(k+1, -1).Join(n.Put(k+3, -2)).Without(m)
	}
	if !slices.Equal(l, m.Keys()) {
		t.Errorf("P112: told %v", l)
	}
	told(t, "All afterwards", seq, m.Keys(), want)
	told(t, "From afterwards", tail, m.Keys()[15:], want)
	check(t, "the old map", m, want)
}

// Every version that ever was is held, and asked again at the end; many are made of one.
func TestOldVersions(t *testing.T) { // P113, and P101 to P112 along the way
	type version struct {
		m    *order.Map[int, int]
		want map[int]int
		all  iter.Seq2[int, int]
	}
	r := rand.New(rand.NewSource(2))
	old := []version{{order.New[int, int](), map[int]int{}, order.New[int, int]().All()}}
	for step := range 3000 {
		a, b := old[len(old)-1-r.Intn(min(len(old), 9))], old[r.Intn(len(old))]
		m, want, k := a.m, maps.Clone(a.want), r.Intn(120)
		switch r.Intn(12) {
		case 0, 1, 2:
			m = m.Drop(k)
			delete(want, k)
		case 3:
			m = m.Join(b.m)
			maps.Copy(want, b.want)
		case 4:
			m = m.Only(b.m)
			maps.DeleteFunc(want, func(k, _ int) bool { _, there := b.want[k]; return !there })
		case 5:
			m = m.Without(b.m)
			maps.DeleteFunc(want, func(k, _ int) bool { _, there := b.want[k]; return there })
		default:
			m = m.Put(k, step)
			want[k] = step
		}
		check(t, "a new version", m, want)
		old = append(old, version{m, want, m.All()})
	}
	for _, v := range old {
		check(t, "an old version", v.m, v.want)
		told(t, "an old version's sequence", v.all, v.m.Keys(), v.want)
	}
}

func TestManyOfOne(t *testing.T) { // P113
	m, want := evens(100)
	var made []*order.Map[int, int]
	for i := range 200 {
		made = append(made, m.Put(i, -i-1), m.Drop(i))
	}
	check(t, "the one", m, want)
	for i := range 200 {
		with, without := maps.Clone(want), maps.Clone(want)
		with[i] = -i - 1
		delete(without, i)
		check(t, "one with a key put", made[2*i], with)
		check(t, "one with a key dropped", made[2*i+1], without)
	}
}

type (
	number int
	serial uint64
	word   string
)

func TestOrders(t *testing.T) {
	i := order.New[number, int]().Put(5, 1).Put(math.MaxInt, 2).Put(-1, 3).Put(math.MinInt, 4).Put(0, 5)
	if l := i.Keys(); !slices.Equal(l, []number{math.MinInt, -1, 0, 5, math.MaxInt}) {
		t.Errorf("numbers: %v", l)
	}
	u := order.New[serial, int]().Put(1<<63, 1).Put(math.MaxUint64, 2).Put(0, 3).Put(1<<63-1, 4)
	if l := u.Keys(); !slices.Equal(l, []serial{0, 1<<63 - 1, 1 << 63, math.MaxUint64}) {
		t.Errorf("numbers without a sign: %v", l)
	}
	want := []word{"", "\x00", "A", "a", "a\x00", "aa", "ab", "b", "é", "\xff", "\xff\x00"}
	s := order.New[word, int]()
	for i := range want {
		s = s.Put(want[i*7%len(want)], i)
	}
	if l := s.Keys(); !slices.Equal(l, want) {
		t.Errorf("texts: %q", l)
	}
	if n, ok := s.Rank("aaa"); n != 6 || ok {
		t.Errorf("P107: Rank(aaa) = %d, %v", n, ok)
	}
	if k, _, ok := u.At(4); k != 0 || ok {
		t.Errorf("P106: At(4) = %d, %v", k, ok)
	}
}

// Values are handed on as they are, also those that can't be held against each other.
func TestValues(t *testing.T) {
	list := []int{1, 2, 3}
	m := order.New[string, []int]().Put("l", list[:2]).Put("n", nil)
	got, _ := m.Get("l")
	if &got[0] != &list[0] || len(got) != 2 || cap(got) != 3 {
		t.Error("P104: the list is another one")
	}
	if _, v, ok := m.At(1); v != nil || !ok {
		t.Errorf("P106: a nil list: %v, %v", v, ok)
	}
	calls := 0
	f := order.New[int, func()]().Put(1, func() { calls++ }).Put(2, nil)
	for _, call := range f.Join(f).Only(f).From(1) {
		if call != nil {
			call()
		}
	}
	if calls != 1 {
		t.Errorf("P112: the function was told %d times", calls)
	}
}

// The same calls answer the same, whenever they are made.
func TestSameAgain(t *testing.T) { // P3
	tell := func() string {
		var b strings.Builder
		m := order.New[string, string]()
		for _, w := range strings.Fields("the quick brown fox jumps over the lazy dog") {
			m = m.Put(w, w+b.String())
			for k, v := range m.All() {
				b.WriteString(k + v[:1])
			}
		}
		return b.String()
	}
	if a, b := tell(), tell(); a != b {
		t.Errorf("P3: %q, then %q", a, b)
	}
}

// A hundred thousand entries, however they come in. What takes a step for each entry is slower by far than the bound.
func TestTime(t *testing.T) { // Ways
	const n = 100000
	began := time.Now()
	for _, step := range []int{1, n - 1, 7919} { // rising, falling, mixed
		m := order.New[int, int]()
		for i := range n {
			m = m.Put(i*step%n, i)
		}
		for i := range n {
			if k, v, ok := m.At(i); k != i || v*step%n != i || !ok {
				t.Fatalf("P106: At(%d) = %d, %d, %v", i, k, v, ok)
			}
			if r, ok := m.Rank(i); r != i || !ok {
				t.Fatalf("P107: Rank(%d) = %d, %v", i, r, ok)
			}
			if v, ok := m.Get(i); v*step%n != i || !ok {
				t.Fatalf("P104: Get(%d) = %d, %v", i, v, ok)
			}
			for k := range m.From(i) {
				if k != i {
					t.Fatalf("P112: From(%d) begins at %d", i, k)
				}
				break
			}
		}
		if m.Join(m).Len() != n || m.Only(m).Len() != n || m.Without(m).Len() != 0 {
			t.Fatal("P109, P110, P111: a great map with itself")
		}
		for i := range n {
			m = m.Drop(i * step % n)
		}
		check(t, "all dropped", m, nil)
	}
	if d := time.Since(began); d > 20*time.Second {
		t.Errorf("three great maps took %v", d)
	}
}
