package view_test

import (
	"bytes"
	"iter"
	"math"
	"runtime"
	"slices"
	"sync"
	"testing"

	"sigil/api"
	"sigil/view"
)

// sequence is what Each answers.
func sequence(t testing.TB, g glass, p string) iter.Seq2[api.Step, *view.View] {
	t.Helper()
	all, e := g.Each(p)
	if all == nil || e != api.OK {
		t.Fatalf("P2107: Each(%q): %v, %v", p, all != nil, e)
	}
	return all
}

// told are the steps of a sequence, so many at most, as texts: a step, and the bytes of its view.
func told(all iter.Seq2[api.Step, *view.View], most int) []string {
	var l []string
	if most == 0 {
		return nil
	}
	for st, in := range all {
		s := short(st)
		if in != nil {
			b, _, _ := in.Bytes("")
			s += " " + some(b)
		}
		if l = append(l, s); len(l) == most {
			break
		}
	}
	return l
}

// sequences are views with a path to something that has values.
func sequences(t testing.TB) map[string]glass {
	return map[string]glass{
		"c":   opens(t, "18 02 1a 03 04 06 08 1a 00 18 0a"),
		"d":   opens(t, "22 05 0a 01 6b 12 00 22 06 0a 01 6a 12 01 08 22 04 0a 00 12 00 22 09 0a 01 6b 12 04 08 05 12 00"),
		"g.d": opens(t, "3a 05 22 03 0a 01 6b 3a 05 22 03 0a 01 6a"),
		"lv":  open(t, wideSchema(), "w.W", rows(record(listV, row("08 02")), record(listV, row("08")), record(listV))),
		"r14": open(t, wideSchema(), "w.W", rows(record(repeated+api.TString, row("ff")), record(repeated+api.TString, row("61")))),
		"mv":  open(t, wideSchema(), "w.W", rows(record(mapV, row("08 ff ff ff ff ff ff ff ff ff 01")), record(mapV, row("08 05 12 02 08 07")), record(mapV))),
		"r3":  open(t, wideSchema(), "w.W", nil),
		"m3":  open(t, wideSchema(), "w.W", nil),
	}
}

func TestSteps(t *testing.T) { // P2107: indexes from 0 on, keys as they rise, each with a view if the values are messages
	for p, want := range map[string][]string{
		"c":   {"{2 0 {0 0  [] []}}", "{2 1 {0 0  [] []}}", "{2 2 {0 0  [] []}}", "{2 3 {0 0  [] []}}", "{2 4 {0 0  [] []}}"},
		"d":   {"{3 0 {2 0  [] []}} 0 bytes ", "{3 0 {2 0 j [] []}} 1 bytes 08", "{3 0 {2 0 k [] []}} 4 bytes 08 05 12 00"},
		"g.d": {"{3 0 {2 0 j [] []}} 0 bytes ", "{3 0 {2 0 k [] []}} 0 bytes "},
		"lv":  {"{2 0 {0 0  [] []}} 2 bytes 08 02", "{2 1 {0 0  [] []}} 1 bytes 08", "{2 2 {0 0  [] []}} 0 bytes "},
		"r14": {"{2 0 {0 0  [] []}}", "{2 1 {0 0  [] []}}"},
		"mv":  {"{3 0 {1 0  [] []}} 0 bytes ", "{3 0 {1 5  [] []}} 2 bytes 08 07", "{3 0 {1 -1  [] []}} 0 bytes "},
		"r3":  nil, "m3": nil,
	} {
		if got := told(sequence(t, sequences(t)[p], p), -1); !slices.Equal(got, want) {
			t.Errorf("P2107: Each(%q): %q, want %q", p, got, want)
		}
	}
}

func TestEachViews(t *testing.T) { // P2107, P2106: the views of a sequence are looked into by the questions that they are asked
	v := opens(t, "22 06 0a 01 6a 12 01 08 22 07 0a 01 6b 12 02 08 05")
	for st, in := range sequence(t, v, "d") {
		g := glass{in, smallSchema(), "p.M", map[string][]byte{"j": row("08"), "k": row("08 05")}[st.Key.Text]}
		if st.Key.Text == "k" {
			g.scalar(t, "a", num(5))
			g.message(t, "", one(1, num(5)), "08 05")
			continue
		}
		g.scalar(t, "a", api.ErrEnds)
		g.message(t, "", api.ErrEnds, "08")
		g.many(t, "c", api.ErrEnds, api.ErrEnds)
	}
}

func TestEachLooksLikeLen(t *testing.T) { // P2107: what Len looks at is looked at when Each is called, with its errors
	for _, c := range []struct {
		b, p string
		want api.Errno
	}{
		{"1a 01 80", "c", api.ErrEnds}, {"22 03 0a 01 ff", "d", api.ErrUtf8}, {"22 01 08", "d", api.ErrEnds}, {"22 03 0a 01 ff 22 01 08", "d", api.ErrUtf8}, {"3a 01 00", "g.c", api.ErrNumber}, {"3a 03 22 01 0c", "g.d", api.ErrGroup},
		{"22 05 0a 00 12 01 00", `d[""].c`, api.ErrNumber}, {"22 05 0a 00 12 01 00", `d["k"].c`, api.OK}, {"22 05 0a 00 12 01 00", "d", api.OK}, {"1a 01 80", "d", api.OK},
	} {
		v := opens(t, c.b)
		n, e := v.Len(c.p)
		all, f := v.Each(c.p)
		if e != c.want || f != c.want || (all == nil) != (c.want != api.OK) {
			t.Errorf("P2107: %s: Len(%q) = %d, %v, Each: %v, %v, want %v", c.b, c.p, n, e, all != nil, f, c.want)
		}
	}
}

func TestEachStopped(t *testing.T) { // P2107: a sequence may be stopped wherever one likes, and be ranged over again
	for p, v := range sequences(t) {
		all := sequence(t, v, p)
		whole := told(all, -1)
		for range 2 {
			for n := range len(whole) + 2 {
				if got := told(all, n); !slices.Equal(got, whole[:min(n, len(whole))]) {
					t.Errorf("P2107: Each(%q), stopped at %d: %q, want %q", p, n, got, whole)
				}
			}
		}
	}
}

func TestEachWithinItself(t *testing.T) { // P2107: ranged over one within the other, pulled beside one another, and by several at the same time
	for p, v := range sequences(t) {
		all := sequence(t, v, p)
		whole := told(all, -1)
		k := 0
		for st := range all {
			if got := told(all, -1); !slices.Equal(got, whole) {
				t.Errorf("P2107: within Each(%q): %q, want %q", p, got, whole)
			}
			told(all, k)
			told(sequence(t, v, p), k)
			if want := whole[k]; want[:len(short(st))] != short(st) {
				t.Errorf("P2107: Each(%q), the step %d is %s, want %s", p, k, short(st), want)
			}
			k++
		}
		if k != len(whole) {
			t.Errorf("P2107: Each(%q): %d steps, want %d", p, k, len(whole))
		}
		next, stop := iter.Pull2(all)
		more, end := iter.Pull2(all)
		for range whole {
			st, _, ok := next()
			su, _, also := more()
			if !ok || !also || short(st) != short(su) {
				t.Errorf("P2107: Each(%q), pulled twice: %s, %v, %s, %v", p, short(st), ok, short(su), also)
			}
		}
		if _, _, ok := next(); ok {
			t.Errorf("P2107: Each(%q): a step behind the last", p)
		}
		stop()
		end()
		var group sync.WaitGroup
		for n := range 6 {
			group.Go(func() {
				for range 30 {
					if got := told(all, n); !slices.Equal(got, whole[:min(n, len(whole))]) {
						t.Errorf("P2107: Each(%q) with others: %q, want %q", p, got, whole)
					}
				}
			})
		}
		group.Wait()
	}
}

// took is how many bytes of memory were asked for by what is done.
func took(do func()) uint64 {
	var before, after runtime.MemStats
	runtime.ReadMemStats(&before)
	do()
	runtime.ReadMemStats(&after)
	return after.TotalAlloc - before.TotalAlloc
}

func TestEachInTurn(t *testing.T) { // a view is made when its turn comes, and who stops has no further one made
	var b []byte
	for i := range 40000 {
		b = append(b, record(mapV, tag(1, 0), varint(i), record(2, row("08 02")))...)
		b = append(b, record(listV, row("08 02"))...)
	}
	v := open(t, wideSchema(), "w.W", b)
	for _, p := range []string{"mv", "lv"} {
		all := sequence(t, v, p)
		for _, n := range []int{1, 10, 1000} {
			k := 0
			used := took(func() {
				for _, in := range all {
					if in == nil {
						t.Fatal("P2107: no view")
					}
					if k++; k == n {
						break
					}
				}
			})
			if k != n || used > uint64(n)*1000+1<<16 {
				t.Errorf("P2107: Each(%q), stopped at %d: %d, %d bytes of memory", p, n, k, used)
			}
		}
	}
}

func TestEachOfMany(t *testing.T) { // P2107: as many unlike keys as there may be, of which many come again
	var b []byte
	const n = 50000
	for i := range 2 * n {
		b = append(b, record(keyed+api.TSfixed32, tag(1, 5), []byte{byte(i * 7919), byte(i * 7919 >> 8), byte(i % 2), 0x80})...)
	}
	keys := map[int]int{}
	for i := range 2 * n {
		keys[int(int32(uint32(i*7919)&0xffff|uint32(i%2)<<16|1<<31))]++
	}
	v := open(t, wideSchema(), "w.W", b)
	if got, e := v.Len("k11"); got != len(keys) || e != api.OK {
		t.Fatalf("P2104: %d, %v, want %d", got, e, len(keys))
	}
	k, before := 0, math.MinInt
	for st, in := range sequence(t, v, "k11") {
		if keys[st.Key.Num] == 0 || st.Key.Num <= before || in != nil || st.Kind != api.SKey || st.Key.Kind != api.VNum {
			t.Fatalf("P2107: %s behind %d", short(st), before)
		}
		before = st.Key.Num
		k++
	}
	if k != len(keys) {
		t.Errorf("P2107: %d steps, want %d", k, len(keys))
	}
}

func TestEachKept(t *testing.T) { // P2107: a sequence is that of its call, whatever is asked in between
	v := opens(t, "22 03 0a 01 6b 22 03 0a 01 6a 18 02")
	all := sequence(t, v, "d")
	want := told(all, -1)
	for range 3 {
		v.scalar(t, `d["k"].a`, nil)
		v.many(t, "c", list(num(1)), 1)
		v.message(t, `d["j"]`, msg(), "")
		if got := told(all, -1); !slices.Equal(got, want) {
			t.Errorf("P2107: asked between: %q, want %q", got, want)
		}
	}
	if !bytes.Equal([]byte(want[0]), []byte("{3 0 {2 0 j [] []}} 0 bytes ")) {
		t.Errorf("P2107: %q", want)
	}
}
