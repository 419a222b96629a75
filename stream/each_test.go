package stream_test

import (
	"iter"
	"runtime"
	"slices"
	"strings"
	"sync"
	"testing"

	"sigil/api"
	"sigil/stream"
)

// each is the sequence of a stream.
func each(t testing.TB, b []byte) iter.Seq2[int, api.Value] {
	t.Helper()
	all, e := stream.Each(b)
	if e != api.OK || all == nil {
		t.Fatalf("P1705: Each: %v", e)
	}
	return all
}

// took is how many bytes of memory were asked for by what is done.
func took(do func()) uint64 {
	var before, after runtime.MemStats
	runtime.ReadMemStats(&before)
	do()
	runtime.ReadMemStats(&after)
	return after.TotalAlloc - before.TotalAlloc
}

func TestEachLeft(t *testing.T) { // P1705: who stops early has no further block read
	const big = 1 << 19
	h := headFor(plain, "M", 1)
	long := holds(strings.Repeat("x", big))
	b := packed(t, h, holds("a"), long, holds("b"), long, long)
	all := each(t, b)
	for n, most := range []uint64{1 << 16, 1 << 16, 3 * big, 3 * big, 6 * big, 9 * big} {
		k := 0
		used := took(func() {
			if n == 0 {
				return
			}
			for range all {
				if k++; k == n {
					break
				}
			}
		})
		if k != n || used > most {
			t.Errorf("P1705: left behind %d values: %d bytes of memory", k, used)
		}
	}
	// Nor is a broken block, or what is behind it.
	hurt := turned(b, len(secondHead(h))+36+4+40, 1)
	if used := took(func() {
		for range each(t, hurt) {
			break
		}
	}); used > uint64(len(b))+1<<18 {
		t.Errorf("P1705: left ahead of a broken block: %d bytes of memory", used)
	}
}

func TestEachPulled(t *testing.T) { // P1705: a block is read when its first value is asked for
	const big = 1 << 19
	h := headFor(plain, "M", 2)
	long := strings.Repeat("x", big-100)
	values := []api.Value{holds("a"), holds("b"), holds(long), holds(long + "x"), holds("c")}
	next, stop := iter.Pull2(each(t, packed(t, h, values...)))
	defer stop()
	for i, want := range values {
		used := took(func() {
			place, v, ok := next()
			if !ok || place != i || !same(v, want) {
				t.Fatalf("P1705: %d, %v", place, ok)
			}
		})
		if large := i == 2; large != (used > big) {
			t.Errorf("P1705: the value %d takes %d bytes of memory", i, used)
		}
	}
	if _, _, ok := next(); ok {
		t.Error("P1705: a value behind the last")
	}
}

func TestEachAgain(t *testing.T) { // P1705: ranged over again it begins anew, wherever it was left
	h := exampleHeadFor(3)
	values := as(0, 10)
	b := packed(t, h, values...)
	for _, b := range [][]byte{b, turned(b, 85+33, 1), b[:len(b)-1]} {
		want, _, _ := stream.Read(b)
		all := each(t, b)
		for n := range 12 {
			var got []api.Value
			for place, v := range all {
				if place != len(got) {
					t.Fatalf("P1705: place %d of the value %d", place, len(got))
				}
				if got = append(got, v); len(got) == n {
					break
				}
			}
			if n == 0 || n > len(want) {
				n = len(want)
			}
			if !sameAll(got, want[:n]) {
				t.Fatalf("P1705: ranged over again: %v, want %v", got, want[:n])
			}
		}
	}
}

func TestEachNested(t *testing.T) { // P1705: ranged over within itself, and by several at once
	values := as(0, 10)
	all := each(t, packed(t, exampleHeadFor(3), values...))
	for i, v := range all {
		if !same(v, values[i]) {
			t.Fatalf("P1705: %d: %v", i, v)
		}
		for k, v := range all {
			if !same(v, values[k]) {
				t.Fatalf("P1705: %d within %d: %v", k, i, v)
			}
			if k == i {
				break
			}
		}
	}
	var group sync.WaitGroup
	for n := range 8 {
		group.Go(func() {
			for range 50 {
				k := 0
				for i, v := range all {
					if i != k || !same(v, values[i]) {
						t.Errorf("P1705: with others: %d: %v", i, v)
					}
					if k++; k == n+2 {
						break
					}
				}
			}
		})
	}
	group.Wait()
}

func TestEachKept(t *testing.T) { // P1705: the bytes are those of the call, whatever becomes of the list
	values := as(0, 10)
	whole := packed(t, exampleHeadFor(3), values...)
	b := slices.Clone(whole)
	all := each(t, b)
	clear(b)
	k := 0
	for i, v := range all {
		if !same(v, values[i]) {
			t.Fatalf("P1705: behind a list that was written over: %d: %v", i, v)
		}
		if k++; k == 5 {
			copy(b, whole)
			b[100]++
		}
	}
	if k != len(values) {
		t.Errorf("P1705: behind a list that was written over: %d values", k)
	}
	b = slices.Clone(whole)
	all = each(t, b)
	k = 0
	for i, v := range all {
		clear(b)
		if !same(v, values[i]) {
			t.Fatalf("P1705: while the list is written over: %d: %v", i, v)
		}
		k++
	}
	if k != len(values) {
		t.Errorf("P1705: while the list is written over: %d values", k)
	}
}

func TestEachGivesOwn(t *testing.T) { // P2: who writes over a value changes none that is told later
	h := headFor(small, "p.M", 2)
	v := msg(at(3, list(num(1), num(2))), at(4, dict(pair(text("k"), msg(at(1, num(1)))))))
	values := []api.Value{v, v, v}
	all := each(t, packed(t, h, values...))
	for range 3 {
		k := 0
		for i, got := range all {
			if !same(got, values[i]) {
				t.Fatalf("P2: %v", got)
			}
			spoil(&got)
			k++
		}
		if k != 3 {
			t.Fatalf("P2: %d values", k)
		}
	}
}
