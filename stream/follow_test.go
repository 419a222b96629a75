package stream_test

import (
	"bytes"
	"slices"
	"testing"

	"sigil/api"
	"sigil/bind"
	"sigil/stream"
	"sigil/tree"
)

// readOf is what Read tells of a stream whose head is right; it must keep P1708.
func readOf(t testing.TB, s *bind.Schema, h api.Head, b []byte) ([]api.Value, []api.Hurt) {
	t.Helper()
	l, hurts, e := stream.Read(b)
	if e != api.OK {
		t.Fatalf("P1704: Read of %d bytes: %v", len(b), e)
	}
	last := len(secondHead(h)) - 1
	for i, hurt := range hurts {
		if hurt.From <= last || hurt.To <= hurt.From || hurt.To > len(b) || hurt.Err != api.ErrBlock && hurt.Err != api.ErrSum && hurt.Err != api.ErrRecords {
			t.Fatalf("P1708: Hurts of %d bytes: %v at %d", len(b), hurts, i)
		}
		last = hurt.To // between two there is a block
	}
	for _, v := range l {
		if _, e := tree.Normal(s, h.Type, v); e != api.OK {
			t.Fatalf("P1708: a value that is %v: %v", e, v)
		}
	}
	return l, hurts
}

// schemaOf is the schema of a made Head.
func schemaOf(t testing.TB, h api.Head) *bind.Schema {
	t.Helper()
	s, bad := bind.Load(h.Sources)
	if bad.Err != api.OK {
		t.Fatal(bad)
	}
	return s
}

func TestThereAndBack(t *testing.T) { // P1707: what was packed is told again
	for i, c := range mades(t, 300, 12) {
		m := newMaker(int64(i))
		b := m.stream(t, c)
		looks(t, b, c.h, len(secondHead(c.h)))
		reads(t, b, c.l)
		if out := appended(t, c.h, b); !bytes.Equal(out, b) {
			t.Fatal("P1707: Append of no values")
		}
		l := slices.Concat(c.l, c.l)
		reads(t, appended(t, c.h, b, c.l...), l)
		follows(t, c.h, b)
	}
}

func TestCut(t *testing.T) { // P1709: a stream cut off at any place behind its head
	for i, c := range mades(t, 30, 8) {
		s := schemaOf(t, c.h)
		b := newMaker(int64(i)).stream(t, c)
		told := secondRead(c.h, b)
		from, whole := len(secondHead(c.h)), 0
		for n := from; n <= len(b); n++ {
			if k := slices.Index(told.ends, n); k >= 0 {
				whole += told.counts[k]
				from = n
			}
			l, hurts := readOf(t, s, c.h, b[:n])
			if len(l) < whole || !sameAll(l[:whole], c.l[:whole]) {
				t.Fatalf("P1709: cut off at %d: %d values, want %d", n, len(l), whole)
			}
			// No text of a made tree holds a block: so these are all.
			if len(l) > whole || n == from && len(hurts) > 0 || n > from && !slices.Equal(hurts, []api.Hurt{{From: from, To: n, Err: api.ErrBlock}}) {
				t.Fatalf("P1709: cut off at %d, %d bytes behind a block: %d values more, %v", n, n-from, len(l)-whole, hurts)
			}
		}
	}
}

func TestTurned(t *testing.T) { // P1709: any byte behind the head changed
	for i, c := range mades(t, 30, 8) {
		m := newMaker(int64(i))
		s := schemaOf(t, c.h)
		b := m.stream(t, c)
		told := secondRead(c.h, b)
		ahead, k := 0, 0
		for n := len(secondHead(c.h)); n < len(b); n++ {
			if n == told.ends[k] {
				ahead += told.counts[k]
				k++
			}
			l, hurts := readOf(t, s, c.h, turned(b, n, byte(1+m.Intn(255))))
			want := slices.Concat(c.l[:ahead], c.l[ahead+told.counts[k]:])
			if !sameAll(l, want) || len(hurts) != 1 || hurts[0].From != told.starts[k] || hurts[0].To != told.ends[k] {
				t.Fatalf("P1709: the byte %d of the block %d changed: %d values, %v", n-told.starts[k], k, len(l), hurts)
			}
			if in := n - told.starts[k]; hurts[0].Err != api.ErrSum && in >= 32 || hurts[0].Err != api.ErrBlock && in < 16 {
				t.Fatalf("P1704: the byte %d of a block changed: %v", in, hurts)
			}
		}
	}
}

func TestOverwritten(t *testing.T) { // P1710: whole blocks overwritten with one byte each
	met := map[int]int{}
	for i, c := range mades(t, 400, 14) {
		m := newMaker(int64(i))
		s := schemaOf(t, c.h)
		b := packed(t, c.h, c.l...)
		told := secondRead(c.h, b)
		for range 4 {
			over := slices.Clone(b)
			var left []api.Value
			var want []api.Hurt
			next := 0
			for k, from := range told.starts {
				to := told.ends[k]
				l := c.l[next : next+told.counts[k]]
				next += len(l)
				if m.often(2) {
					left = append(left, l...)
					continue
				}
				copy(over[from:to], bytes.Repeat([]byte{byte(m.Intn(256))}, to-from))
				if last := len(want) - 1; last >= 0 && want[last].To == from {
					want[last].To = to
				} else {
					want = append(want, api.Hurt{From: from, To: to, Err: api.ErrBlock})
				}
			}
			l, hurts := readOf(t, s, c.h, over)
			if !sameAll(l, left) || !slices.Equal(hurts, want) {
				t.Fatalf("P1710: %d values, %v, want %d, %v", len(l), hurts, len(left), want)
			}
			met[len(want)]++
			mended(t, s, c.h, over)
		}
	}
	for n := range 4 {
		if met[n] < 20 {
			t.Errorf("%d streams with %d Hurts: too few", met[n], n)
		}
	}
}

// mended looks at P1711.
func mended(t *testing.T, s *bind.Schema, h api.Head, b []byte) {
	t.Helper()
	l, hurts := readOf(t, s, h, b)
	out, told, e := stream.Mend(b)
	if e != api.OK || !slices.Equal(told, hurts) {
		t.Fatalf("P1706: Mend of %d bytes: %v, %v, want %v", len(b), told, e, hurts)
	}
	looks(t, out, h, len(secondHead(h)))
	if again, none := readOf(t, s, h, out); !sameAll(again, l) || len(none) > 0 {
		t.Fatalf("P1711: Read of what Mend answers: %d values, %v, want %d", len(again), none, len(l))
	}
	if again, none, e := stream.Mend(out); e != api.OK || len(none) > 0 || !bytes.Equal(again, out) {
		t.Fatalf("P1711: Mend of what Mend answers: %v, %v", none, e)
	}
}

// mangled is a stream with something done to it behind its head.
func (m *maker) mangled(h api.Head, b []byte) []byte {
	from := len(secondHead(h))
	told := secondRead(h, b)
	place := func() int { return from + m.Intn(len(b)-from+1) }
	block := func() []byte {
		if len(told.starts) == 0 {
			return []byte{7}
		}
		k := m.Intn(len(told.starts))
		return b[told.starts[k]:told.ends[k]]
	}
	x, y := place(), place()
	x, y = min(x, y), max(x, y)
	switch m.Intn(9) {
	case 0:
		return b[:x]
	case 1:
		return join(b[:x], b[y:])
	case 2:
		return join(b[:x], bytes.Repeat([]byte{byte(m.Intn(256))}, y-x), b[y:])
	case 3:
		return join(b[:x], b[x:y], b[x:y], b[y:])
	case 4:
		return join(b[:x], block(), b[x:])
	case 5:
		return join(b, block(), block())
	case 6: // a block of the right place with any number
		f := right(secondHead(h), m.Intn(6), x, pick(m, record(nil), []byte{0x80, 0}, []byte{9}))
		f.count += m.Intn(2)
		return join(b[:x], f.bytes(), b[x:])
	case 7: // the same over what stands there
		f := right(secondHead(h), m.Intn(6), x, record(nil), record(nil)).bytes()
		return join(b[:x], f, b[min(len(b), x+len(f)):])
	}
	if from == len(b) {
		return b
	}
	return turned(b, from+m.Intn(len(b)-from), byte(1+m.Intn(255)))
}

func TestAnyBytes(t *testing.T) { // P1704 to P1706, P1708, P1711: streams to which anything was done
	met := map[api.Errno]int{}
	most := 0
	for i, c := range mades(t, 200, 12) {
		m := newMaker(int64(i))
		s := schemaOf(t, c.h)
		b := m.stream(t, c)
		for range 5 {
			b = m.mangled(c.h, b)
			got := follows(t, c.h, b)
			mended(t, s, c.h, b)
			for _, hurt := range got.hurts {
				met[hurt.Err]++
			}
			most = max(most, len(got.hurts))
			if len(got.hurts) > 0 {
				appendRefuses(t, b, c.l, 0, api.ErrBlock)
			} else {
				appended(t, c.h, b, c.l...)
			}
		}
	}
	if met[api.ErrBlock] < 50 || met[api.ErrSum] < 50 || most < 4 {
		t.Errorf("Hurts %v, at most %d: too few", met, most)
	}
}
