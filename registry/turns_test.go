package registry_test

import (
	"fmt"
	"slices"
	"sync"
	"testing"

	"sigil/api"
	"sigil/registry"
)

// scripts are made scripts, so many.
func scripts(t testing.TB, seed int64, n int) [][]step {
	t.Helper()
	var l [][]step
	for i := range n {
		l = append(l, newMaker(seed+int64(i)).script(t, 40))
	}
	return l
}

// open is a registry without subjects.
func open(t testing.TB) *registry.Registry {
	t.Helper()
	r, n, e := registry.Open(nil)
	if r == nil || n != 0 || e != api.OK {
		t.Fatalf("P1806: Open of nothing = %d, %v", n, e)
	}
	return r
}

// answers are what a new registry answers to a script.
func answers(t testing.TB, l []step) []string {
	t.Helper()
	r := open(t)
	var out []string
	for _, s := range l {
		out = append(out, s.do(r).told())
	}
	return append(out, fmt.Sprint(r.Log()))
}

func TestInTurns(t *testing.T) { // P3: answers hang on nothing that was asked of another registry
	l := scripts(t, 4000, 20)
	var want [][]string
	for _, s := range l {
		want = append(want, answers(t, s))
	}
	for round := range 3 {
		m := newMaker(int64(round))
		registries, next := make([]*registry.Registry, len(l)), make([]int, len(l))
		for i := range l {
			registries[i] = open(t)
		}
		for left := len(l) * 40; left > 0; {
			i := m.Intn(len(l))
			if next[i] == 40 {
				continue
			}
			if got := l[i][next[i]].do(registries[i]).told(); got != want[i][next[i]] {
				t.Fatalf("P3: with others between: %.300s, alone %.300s", got, want[i][next[i]])
			}
			next[i]++
			left--
		}
		for i, r := range registries {
			if fmt.Sprint(r.Log()) != want[i][40] {
				t.Fatal("P3: with others between another log is written")
			}
		}
	}
}

func TestAskedAtOnce(t *testing.T) { // P3: several registries at the same time, and several that ask one that nobody changes
	l := scripts(t, 4100, 16)
	var want [][]string
	for _, s := range l {
		want = append(want, answers(t, s))
	}
	var all sync.WaitGroup
	for i, s := range l {
		all.Go(func() {
			for range 3 {
				if got := answers(t, s); !slices.Equal(got, want[i]) {
					t.Error("P3: with others at the same time other answers")
				}
			}
		})
	}
	all.Wait()
	r := open(t)
	for _, s := range l[0] {
		s.do(r)
	}
	asked := slices.DeleteFunc(slices.Concat(l[0], l[1]), step.acts)
	var told []string
	for _, s := range asked {
		told = append(told, s.do(r).told())
	}
	for range 8 {
		all.Go(func() {
			for i, s := range asked {
				if got := s.do(r).told(); got != told[i] {
					t.Errorf("P3: asked by several: %.300s, want %.300s", got, told[i])
				}
			}
		})
	}
	all.Wait()
}

func TestTwoOfOneLog(t *testing.T) { // P3: registries of one log go their own ways
	log := known(t, 3)
	for range 3 {
		x, y := opened(t, log), opened(t, log)
		x.registers("t", fileC, "M", 1, api.OK)
		x.drops("s", 2, api.OK)
		y.drops("s", 1, api.OK)
		y.rules("s", api.RNone, api.OK)
		y.registers("t", fileA, "M", 1, api.OK)
		y.registers("s", fileC, "M", 3, api.OK)
		x.registers("s", fileA, "M", 1, api.OK)
		x.alike()
		y.alike()
		x.again()
		y.again()
		opened(t, log).alike()
	}
}
