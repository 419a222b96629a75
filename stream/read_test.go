package stream_test

import (
	"bytes"
	"slices"
	"testing"

	"sigil/api"
)

// scene is a stream of the chapter's schema, with Per 3: a right block of the number 5 with two values, from 85 on; then a place for another block; then a right block of the number 9.
type scene struct {
	h    api.Head
	head []byte
	b    []byte // up to the place
}

func newScene() scene {
	h := exampleHeadFor(3)
	head := secondHead(h)
	return scene{h, head, join(head, right(head, 5, 85, numbered(1), numbered(2)).bytes())}
}

// place is where the other block begins.
func (s scene) place() int { return len(s.b) }

// last is the right block behind it.
func (s scene) last(place int) []byte { return right(s.head, 9, place, numbered(7)).bytes() }

// hurt looks at a broken block in the place: with another block behind it, with other bytes, and at the end.
func (s scene) hurt(t *testing.T, broken []byte, e api.Errno) {
	t.Helper()
	from, to := s.place(), s.place()+len(broken)
	b := join(s.b, broken, s.last(to))
	reads(t, b, []api.Value{a(1), a(2), a(7)}, api.Hurt{From: from, To: to, Err: e})
	follows(t, s.h, b)
	appendRefuses(t, b, nil, 0, api.ErrBlock)
	appendRefuses(t, b, []api.Value{{}}, 0, api.ErrBlock)
	b = join(s.b, broken, []byte("rubbish"), s.last(to+7))
	reads(t, b, []api.Value{a(1), a(2), a(7)}, api.Hurt{From: from, To: to + 7, Err: e})
	reads(t, join(s.b, broken), []api.Value{a(1), a(2)}, api.Hurt{From: from, To: to, Err: e})
}

// whole looks at a right block in the place.
func (s scene) whole(t *testing.T, block []byte, l ...api.Value) {
	t.Helper()
	to := s.place() + len(block)
	reads(t, join(s.b, block, s.last(to)), slices.Concat([]api.Value{a(1), a(2)}, l, []api.Value{a(7)}))
	reads(t, join(s.b, block), slices.Concat([]api.Value{a(1), a(2)}, l))
	follows(t, s.h, join(s.b, block))
}

func TestReadRight(t *testing.T) { // P1704: blocks that Pack would write with another number or other records are right too
	s := newScene()
	for _, number := range []int{6, 7, 8} {
		s.whole(t, right(s.head, number, s.place(), numbered(3)).bytes(), a(3))
		s.whole(t, right(s.head, number, s.place(), numbered(3), numbered(0), numbered(1<<31-1)).bytes(), a(3), a(0), a(1<<31-1))
	}
	s.whole(t, join(right(s.head, 6, s.place(), numbered(0)).bytes(), right(s.head, 8, s.place()+37, numbered(0)).bytes()), a(0), a(0))
	reads(t, join(s.b, right(s.head, 1<<32-1, s.place(), numbered(0)).bytes()), []api.Value{a(1), a(2), a(0)})
	reads(t, join(s.b, right(s.head, 1<<31, s.place(), numbered(0)).bytes()), []api.Value{a(1), a(2), a(0)})
	// Blocks need not be full, nor as full as MaxBlock lets them be.
	h := headFor(plain, "M", 3)
	head := secondHead(h)
	half := record(join([]byte{0x0a}, record(make([]byte, 1<<19))))
	b := join(head, right(head, 0, len(head), half, half, half).bytes())
	if len(b) < len(head)+api.MaxBlock+1<<19 {
		t.Fatalf("%d bytes are not as many as were meant", len(b))
	}
	v := holds(string(make([]byte, 1<<19)))
	reads(t, b, []api.Value{v, v, v})
	follows(t, h, b)
}

func TestReadBegin(t *testing.T) { // P1704: the mark, the number, the place, the count of records, their length: ErrBlock
	s := newScene()
	f := right(s.head, 6, s.place(), numbered(3), numbered(4))
	for i := range 16 {
		s.hurt(t, f.with(func(f *forged) { f.mark = turned(f.mark, i, 1<<(i%8)) }), api.ErrBlock)
	}
	s.hurt(t, f.with(func(f *forged) { f.mark = markOf(nil) }), api.ErrBlock)
	s.hurt(t, f.with(func(f *forged) { f.mark = markOf(s.b) }), api.ErrBlock)
	s.hurt(t, f.with(func(f *forged) { f.mark = markOf(secondHead(exampleHeadFor(2))) }), api.ErrBlock)
	for _, number := range []int{0, 1, 4, 5} {
		s.hurt(t, f.with(func(f *forged) { f.number = number }), api.ErrBlock)
	}
	for _, place := range []int{0, 85, s.place() - 1, s.place() + 1, s.place() | 1<<24, 1<<32 - 1} {
		s.hurt(t, f.with(func(f *forged) { f.place = place }), api.ErrBlock)
	}
	for _, count := range []int{0, 4, 5, 256, 257, 1 << 24, 1<<32 - 1} {
		s.hurt(t, f.with(func(f *forged) { f.count = count }), api.ErrBlock)
	}
	for _, size := range []int{0, 1 << 16, 1 << 26, 1<<31 - 1, 1 << 31, 1<<32 - 36, 1<<32 - 1} {
		s.hurt(t, f.with(func(f *forged) { f.size = size }), api.ErrBlock)
	}
	s.hurt(t, f.with(func(f *forged) { f.size, f.records = 0, nil }), api.ErrBlock)
	s.hurt(t, f.with(func(f *forged) { f.count, f.size, f.records = 0, 0, nil }), api.ErrBlock)
	for n := 1; n < len(f.bytes()); n++ {
		reads(t, join(s.b, f.bytes()[:n]), []api.Value{a(1), a(2)}, api.Hurt{From: s.place(), To: s.place() + n, Err: api.ErrBlock})
	}
}

func TestReadShort(t *testing.T) { // P1704: fewer than 36 bytes, whatever they are
	s := newScene()
	f := right(s.head, 6, s.place(), numbered(0)).bytes()
	for n := 1; n < 36; n++ {
		reads(t, join(s.b, f[:n]), []api.Value{a(1), a(2)}, api.Hurt{From: s.place(), To: s.place() + n, Err: api.ErrBlock})
		reads(t, join(s.b, make([]byte, n)), []api.Value{a(1), a(2)}, api.Hurt{From: s.place(), To: s.place() + n, Err: api.ErrBlock})
		if n < 32 { // else what stands behind it is taken for the records and the sum
			s.hurt(t, f[:n], api.ErrBlock)
		}
	}
	// 36 bytes: a block without records is ErrBlock, also if its sum is wrong.
	none := right(s.head, 6, s.place())
	none.count = 1
	s.hurt(t, none.bytes(), api.ErrBlock)
	none.turn = 1
	s.hurt(t, none.bytes(), api.ErrBlock)
}

func TestReadSum(t *testing.T) { // P1704: a wrong sum: ErrSum, whatever the records are
	s := newScene()
	f := right(s.head, 6, s.place(), numbered(3), numbered(4))
	for bit := range 8 {
		s.hurt(t, f.with(func(f *forged) { f.turn = 1 << bit }), api.ErrSum)
	}
	good := f.bytes()
	for at := 32; at < len(good); at++ {
		s.hurt(t, turned(good, at, 0x10), api.ErrSum)
	}
	s.hurt(t, turned(good, 16, 1), api.ErrSum) // number 7
	s.hurt(t, turned(good, 24, 1), api.ErrSum) // count 3
	s.hurt(t, turned(good, 28, 2), api.ErrSum) // two bytes fewer
	s.hurt(t, f.with(func(f *forged) { f.count, f.turn = 1, 2 }), api.ErrSum)
	s.hurt(t, f.with(func(f *forged) { f.records, f.turn = []byte{255, 255, 255, 255, 255, 255}, 2 }), api.ErrSum)
	// What is said ahead is looked at first.
	s.hurt(t, f.with(func(f *forged) { f.number, f.turn = 5, 2 }), api.ErrBlock)
	s.hurt(t, f.with(func(f *forged) { f.count, f.turn = 4, 2 }), api.ErrBlock)
}

func TestReadRecords(t *testing.T) { // P1704: records that are not as said: ErrBlock
	s := newScene()
	f := right(s.head, 6, s.place(), numbered(3), numbered(4))
	s.hurt(t, f.with(func(f *forged) { f.count = 1 }), api.ErrBlock)
	s.hurt(t, f.with(func(f *forged) { f.count = 3 }), api.ErrBlock)
	for _, records := range [][]byte{
		{0, 0, 0}, {0}, // more, and fewer
		{2, 8, 1, 3, 8, 1}, {2, 8, 1, 2, 8}, {3, 8, 1, 0}, {2, 8, 1, 2}, {6, 8, 1, 8, 1, 8}, // lengths that reach beyond the end, or not to it
		{0x80, 0, 2, 8, 1}, {0x82, 0, 8, 1, 0}, {2, 8, 1, 0x80, 0}, {0x82, 0x80, 0, 8, 1, 0}, // varints that are not the shortest
		{0, 0x80}, {0x80}, {0, 0xff, 0xff, 0xff}, // varints that run out
		{0, 0xff, 0xff, 0xff, 0xff, 0xff, 0xff, 0xff, 0xff, 0xff, 1}, {0, 0xff, 0xff, 0xff, 0xff, 0xff, 0xff, 0xff, 0xff, 0xff, 2}, {0, 0xff, 0xff, 0xff, 0xff, 0xff, 0xff, 0xff, 0xff, 0x7f}, {0x80, 0x80, 0x80, 0x80, 0x80, 0x80, 0x80, 0x80, 0x80, 0x01, 0}, {0, 0x80, 0x80, 0x80, 0x80, 0x80, 0x80, 0x80, 0x80, 0x80, 0x00},
		{2, 8, 0, 0}, {0, 2, 8, 0}, {3, 8, 0x81, 0, 0}, {4, 8, 1, 8, 2, 0}, {2, 16, 1, 0}, {1, 8, 0}, {0, 2, 9, 1}, {0, 1, 0}, {0, 2, 0x0e, 1}, // bytes that are not canonical
	} {
		s.hurt(t, f.with(func(f *forged) { f.size, f.records = len(records), records }), api.ErrBlock)
		s.hurt(t, f.with(func(f *forged) { f.size, f.records, f.turn = len(records), records, 1 }), api.ErrSum)
	}
}

func TestReadLongRecord(t *testing.T) { // P1704: a record of MaxMessage bytes, and of one more, of which there is no value
	h := headFor(plain, "M", 2)
	head := secondHead(h)
	first := right(head, 0, len(head), record(nil)).bytes()
	from := len(head) + len(first)
	for n, ok := range map[int]bool{api.MaxMessage: true, api.MaxMessage + 1: false} {
		body := make([]byte, n-4)
		block := right(head, 1, from, record(nil), record(join([]byte{0x0a}, record(body)))).bytes()
		b := join(head, first, block)
		if ok {
			reads(t, b, []api.Value{msg(), msg(), holds(string(body))})
		} else {
			reads(t, b, []api.Value{msg()}, api.Hurt{From: from, To: len(b), Err: api.ErrBlock})
		}
	}
}

func TestReadRises(t *testing.T) { // P1704: numbers that don't rise are refused, against all blocks that were told
	h := exampleHeadFor(2)
	head := secondHead(h)
	b := slices.Clone(head)
	var hurts []api.Hurt
	var l []api.Value
	top := -1
	for i, number := range []int{3, 0, 3, 2, 4, 1, 4, 10, 9, 5, 11, 1 << 31, 12, 1<<32 - 1, 0, 1<<32 - 1, 1<<32 - 2} {
		block := right(head, number, len(b), numbered(i+1)).bytes()
		if number > top {
			top = number
			l = append(l, a(i+1))
		} else if last := len(hurts) - 1; last >= 0 && hurts[last].To == len(b) {
			hurts[last].To += len(block)
		} else {
			hurts = append(hurts, api.Hurt{From: len(b), To: len(b) + len(block), Err: api.ErrBlock})
		}
		b = append(b, block...)
	}
	if len(l) != 6 || len(hurts) != 5 {
		t.Fatalf("%d values and %d Hurts are not as many as were meant", len(l), len(hurts))
	}
	reads(t, b, l, hurts...)
	follows(t, h, b)
	// A block that was not told does not count: with the second one broken behind its number, the third may have it.
	b = join(head, right(head, 0, 85, numbered(1)).bytes())
	b = append(b, right(head, 7, len(b), numbered(2)).with(func(f *forged) { f.turn = 1 })...)
	b = append(b, right(head, 3, len(b), numbered(3)).bytes()...)
	reads(t, b, []api.Value{a(1), a(3)}, api.Hurt{From: 124, To: 163, Err: api.ErrSum})
}

func TestReadOtherStream(t *testing.T) { // P1704: blocks of another stream, or from another place, are none
	three := as(1, 4)
	x := packed(t, exampleHeadFor(1), three...)
	y := packed(t, exampleHeadFor(2), three...)
	blocks := len(x) - 85
	reads(t, join(x[:85], y[85:]), nil, api.Hurt{From: 85, To: len(y), Err: api.ErrBlock})
	reads(t, join(x, y), three, api.Hurt{From: len(x), To: len(x) + len(y), Err: api.ErrBlock})
	reads(t, join(x, x), three, api.Hurt{From: len(x), To: 2 * len(x), Err: api.ErrBlock})
	reads(t, join(x[:85], x[85+blocks/3:]), nil, api.Hurt{From: 85, To: len(x) - blocks/3, Err: api.ErrBlock})
	reads(t, join(x[:85+blocks/3], x[85+2*blocks/3:]), three[:1], api.Hurt{From: 85 + blocks/3, To: len(x) - blocks/3, Err: api.ErrBlock})
	reads(t, join(x[:85], []byte{0}, x[85:]), nil, api.Hurt{From: 85, To: len(x) + 1, Err: api.ErrBlock})
}

func TestReadMost(t *testing.T) { // P1704: more than MaxRecords values over several blocks
	h := exampleHeadFor(256)
	head := secondHead(h)
	const most = api.MaxRecords
	b := packed(t, h, as(0, most-6)...)
	add := func(b []byte, number, from, to int) []byte {
		var records [][]byte
		for i := from; i < to; i++ {
			records = append(records, numbered(i))
		}
		return append(slices.Clone(b), right(head, number, len(b), records...).bytes()...)
	}
	// Seven more are too many; then two and four, which are not; then one, which is.
	seven := add(b, 100, 0, 7)
	two := add(seven, 101, most-6, most-4)
	four := add(two, 102, most-4, most)
	one := add(four, 103, 0, 1)
	first := api.Hurt{From: len(b), To: len(seven), Err: api.ErrRecords}
	reads(t, seven, as(0, most-6), first)
	reads(t, two, as(0, most-4), first)
	reads(t, four, as(0, most), first)
	reads(t, one, as(0, most), first, api.Hurt{From: len(four), To: len(one), Err: api.ErrRecords})
	follows(t, h, one)
	// A number that does not rise, and a wrong sum, come ahead; records that are not as said come behind.
	low := add(four, 102, 0, 1)
	reads(t, low, as(0, most), first, api.Hurt{From: len(four), To: len(low), Err: api.ErrBlock})
	reads(t, turned(one, len(one)-1, 1), as(0, most), first, api.Hurt{From: len(four), To: len(one), Err: api.ErrSum})
	bad := append(slices.Clone(four), right(head, 103, len(four), []byte{0x80, 0}).bytes()...)
	reads(t, bad, as(0, most), first, api.Hurt{From: len(four), To: len(bad), Err: api.ErrRecords})
	bad = append(slices.Clone(b), right(head, 103, len(b), slices.Repeat([][]byte{{0x80, 0}}, 6)...).bytes()...)
	reads(t, bad, as(0, most-6), api.Hurt{From: len(b), To: len(bad), Err: api.ErrBlock})
	bad = append(slices.Clone(b), right(head, 103, len(b), slices.Repeat([][]byte{{0x80, 0}}, 7)...).bytes()...)
	reads(t, bad, as(0, most-6), api.Hurt{From: len(b), To: len(bad), Err: api.ErrRecords})
	// A block that was refused so has no number that counts.
	again := add(seven, 100, most-6, most)
	reads(t, again, as(0, most), first)
}

func TestReadBehindBroken(t *testing.T) { // P1704: right blocks are found behind any broken bytes, at any place
	s := newScene()
	mark := markOf(s.head)
	block := right(s.head, 6, s.place(), numbered(3)).bytes()
	for _, broken := range [][]byte{
		{0}, mark, mark[:15], join(mark, mark), join(mark[:1], mark), join(mark[:15], mark[:15]), bytes.Repeat(mark[:1], 40), s.head, s.b, block[:len(block)-1], turned(block, 33, 1), join(block[:35], block[:35]), bytes.Repeat([]byte{0xff}, 5000),
	} {
		from, to := s.place(), s.place()+len(broken)
		b := join(s.b, broken, s.last(to))
		got := follows(t, s.h, b)
		if len(got.hurts) != 1 || got.hurts[0].From != from || got.hurts[0].To != to || !sameAll(got.values, []api.Value{a(1), a(2), a(7)}) {
			t.Errorf("P1704: behind %.60x: %v, %v", broken, got.values, got.hurts)
		}
	}
}
