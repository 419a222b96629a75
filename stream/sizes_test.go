package stream_test

import (
	"bytes"
	"slices"
	"strings"
	"testing"

	"sigil/api"
	"sigil/stream"
)

// large are values of plain that are a stream of so many bytes with Per 1.
func large(t *testing.T, h api.Head, size int) []api.Value {
	t.Helper()
	const each = 1 << 20
	rest := size - len(secondHead(h))
	full := filled(each - 36 - 3)
	var l []api.Value
	for ; rest > 2*each; rest -= each {
		l = append(l, full)
	}
	for _, n := range []int{rest / 2, rest - rest/2} {
		l = append(l, filled(n-36-3))
	}
	return l
}

func TestMaxLog(t *testing.T) { // P1701 to P1703: streams of MaxLog bytes, and of one more
	h := headFor(plain, "M", 1)
	l := large(t, h, api.MaxLog)
	b := packed(t, h, l...)
	if len(b) != api.MaxLog {
		t.Fatalf("%d bytes are not as many as were meant", len(b))
	}
	looks(t, b, h, len(secondHead(h)))
	reads(t, b, l)
	if again := appended(t, h, b); !bytes.Equal(again, b) {
		t.Error("P1707: Append of no values")
	}
	if out, hurts, e := stream.Mend(b); e != api.OK || len(hurts) > 0 || !bytes.Equal(out, b) {
		t.Errorf("P1711: Mend of a whole stream: %v, %v", hurts, e)
	}
	appendRefuses(t, b, []api.Value{msg()}, 0, api.ErrSize)
	appendRefuses(t, b, []api.Value{msg(), num(1)}, 1, api.ErrType)
	appendRefuses(t, b, slices.Repeat([]api.Value{msg()}, api.MaxRecords), 0, api.ErrRecords)
	appendRefuses(t, turned(b, len(b)-1, 1), []api.Value{msg()}, 0, api.ErrBlock)

	packRefuses(t, h, large(t, h, api.MaxLog+1), 0, api.ErrSize)
	packRefuses(t, h, append(large(t, h, api.MaxLog+1), num(1)), len(l), api.ErrType)
	headRefuses(t, append(b, 0), api.ErrLong)
	headRefuses(t, bytes.Repeat([]byte{0}, api.MaxLog+1), api.ErrLong)
	headRefuses(t, bytes.Repeat([]byte{0}, api.MaxLog), api.ErrMagic)
}

func TestAppendToMaxLog(t *testing.T) { // P1702: up to MaxLog bytes, and to one more
	h := headFor(plain, "M", 1)
	l := large(t, h, api.MaxLog-1000)
	b := packed(t, h, l...)
	fits := filled(1000 - 36 - 2)
	if out := appended(t, h, b, fits); len(out) != api.MaxLog {
		t.Errorf("%d bytes are not as many as were meant", len(out))
	}
	appendRefuses(t, b, []api.Value{filled(1000 - 36 - 1)}, 0, api.ErrSize)
	appendRefuses(t, b, []api.Value{fits, msg()}, 0, api.ErrSize)
	appendRefuses(t, b, []api.Value{fits, msg(), num(1)}, 2, api.ErrType)
}

func TestManyLarge(t *testing.T) { // P1701: MaxRecords values that are many times as long as a stream: ErrSize, but behind the values' errors
	h := headFor(plain, "M", 256)
	l := slices.Repeat([]api.Value{holds(strings.Repeat("x", 1<<19))}, api.MaxRecords)
	packRefuses(t, h, l, 0, api.ErrSize)
	appendRefuses(t, packed(t, h), l, 0, api.ErrSize)
	l[len(l)-1] = msg(at(4, text("\xff")))
	packRefuses(t, h, l, len(l)-1, api.ErrType)
	appendRefuses(t, packed(t, h), l, len(l)-1, api.ErrType)
}

func TestMendTooLarge(t *testing.T) { // P1706: a stream that Pack would write in more bytes than MaxLog: ErrSize, and nothing else
	h := headFor(plain, "M", 256)
	head := secondHead(h)
	full := strings.Repeat("x", api.MaxMessage-4)
	longest := record(join([]byte{0x0a}, record([]byte(full))))
	for _, broken := range []int{0, 40} {
		// One block that has more than MaxBlock bytes: as Pack makes blocks each record has one of its own.
		records := slices.Repeat([][]byte{longest}, 63)
		rest := strings.Repeat("y", api.MaxLog-len(head)-36-len(longest)*63-broken-3-4)
		records = append(records, record(join([]byte{0x0a}, record([]byte(rest)))))
		b := join(head, right(head, 0, len(head), records...).bytes(), make([]byte, broken))
		if len(b) != api.MaxLog {
			t.Fatalf("%d bytes are not as many as were meant", len(b))
		}
		var hurts []api.Hurt
		if broken > 0 {
			hurts = []api.Hurt{{From: api.MaxLog - broken, To: api.MaxLog, Err: api.ErrBlock}}
		}
		reads(t, b, append(slices.Repeat([]api.Value{holds(full)}, 63), holds(rest)), hurts...)
		if out, hurts, e := stream.Mend(b); e != api.ErrSize || len(out)+len(hurts) > 0 {
			t.Errorf("P1706: Mend = %d bytes, %v, %v, want %v", len(out), hurts, e, api.ErrSize)
		}
	}
}
