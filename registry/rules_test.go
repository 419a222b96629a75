package registry_test

import (
	"fmt"
	"testing"

	"sigil/api"
)

// offer is a text with its type.
type offer struct{ text, name string }

// of is an offer of one message of that name.
func of(name, fields string) offer {
	return offer{fmt.Sprintf("message %s { %s }", name, fields), name}
}

// history is a registry of the versions of "s", with some dropped, and that rule.
func history(t testing.TB, rule int, dropped []int, versions ...offer) twin {
	t.Helper()
	x := fresh(t)
	for i, v := range versions {
		x.registers("s", src(v.text), v.name, i+1, api.OK)
		if i == 0 {
			x.rules("s", api.RNone, api.OK)
		}
	}
	for _, n := range dropped {
		x.drops("s", n, api.OK)
	}
	if len(versions) > 0 {
		x.rules("s", rule, api.OK)
	}
	return x
}

// Versions: A reads what B wrote, all read what D wrote and D what all wrote; the others break at the field 1.
var (
	wideOne   = of("A", "int64 a = 1; reserved 2 to max;")
	narrowOne = of("B", "int32 a = 1; reserved 2 to max;")
	otherOne  = of("C", "string a = 1; reserved 2 to max;")
	emptyOne  = of("D", "reserved 1 to max;")
	loneOne   = of("E", "bytes a = 1;")
)

// breakAt1 is a break of that rule at the field 1.
func breakAt1(rule int, old, now string) api.Break {
	return api.Break{Rule: rule, Path: []int{1}, Old: old, New: now}
}

func TestNoneAsked(t *testing.T) { // P1802: RNone, and where no version is living, whatever the rule is
	all := []offer{wideOne, narrowOne, otherOne, emptyOne, loneOne}
	for _, next := range all {
		x := history(t, api.RNone, nil, otherOne, wideOne)
		if next != otherOne && next != wideOne {
			x.tries("s", src(next.text), next.name, api.Break{}, api.OK)
			x.registers("s", src(next.text), next.name, 3, api.OK)
		}
		x = fresh(t)
		x.tries("s", src(next.text), next.name, api.Break{}, api.OK)
		for rule := api.RNone; rule <= api.RFullAll; rule++ {
			x := history(t, rule, []int{2, 1}, otherOne, wideOne)
			x.tries("s", src(next.text), next.name, api.Break{}, api.OK)
			x.registers("s", src(next.text), next.name, 3, api.OK)
			x.again()
		}
	}
}

func TestOneAsked(t *testing.T) { // P1802: each rule with one living version
	for _, c := range []struct {
		old, next               offer
		backward, forward, full api.Break
	}{
		{narrowOne, wideOne, api.Break{}, breakAt1(api.BType, "A", "B"), breakAt1(api.BType, "A", "B")},
		{wideOne, narrowOne, breakAt1(api.BType, "A", "B"), api.Break{}, breakAt1(api.BType, "A", "B")},
		{otherOne, narrowOne, breakAt1(api.BType, "C", "B"), breakAt1(api.BType, "B", "C"), breakAt1(api.BType, "C", "B")},
		{narrowOne, otherOne, breakAt1(api.BType, "B", "C"), breakAt1(api.BType, "C", "B"), breakAt1(api.BType, "B", "C")},
		{otherOne, emptyOne, api.Break{}, api.Break{}, api.Break{}},
		{emptyOne, of("F", ""), api.Break{}, api.Break{}, api.Break{}},
		{loneOne, of("F", ""), breakAt1(api.BGone, "E", "F"), api.Break{}, breakAt1(api.BGone, "E", "F")},
		{of("F", ""), loneOne, api.Break{}, breakAt1(api.BGone, "E", "F"), breakAt1(api.BGone, "E", "F")},
		{of("F", "int32 a = 1; int32 b = 2;"), of("G", "int32 a = 1; repeated int32 b = 2;"), api.Break{}, api.Break{Rule: api.BCard, Path: []int{2}, Old: "G", New: "F"}, api.Break{Rule: api.BCard, Path: []int{2}, Old: "G", New: "F"}},
		{of("F", "int32 a = 1; int32 b = 2;"), of("G", "oneof o { int32 a = 1; int32 b = 2; }"), breakAt1(api.BOneof, "F", "G"), api.Break{}, breakAt1(api.BOneof, "F", "G")},
		{of("F", "map<int32, F> m = 7;"), of("G", "map<int64, G> m = 7;"), api.Break{}, api.Break{Rule: api.BKey, Path: []int{7}, Old: "G", New: "F"}, api.Break{Rule: api.BKey, Path: []int{7}, Old: "G", New: "F"}},
		{offer{"message F { H h = 3; } message H { string s = 5; }", "F"}, offer{"message G { I h = 3; } message I { bytes s = 5; }", "G"}, api.Break{}, api.Break{Rule: api.BType, Path: []int{3, 5}, Old: "I", New: "H"}, api.Break{Rule: api.BType, Path: []int{3, 5}, Old: "I", New: "H"}},
	} {
		wants := []api.Break{{}, c.backward, c.forward, c.full, c.backward, c.forward, c.full}
		for rule, want := range wants {
			x := history(t, rule, nil, c.old)
			if want.Rule != 0 {
				x.breaks("s", src(c.next.text), c.next.name, want)
				continue
			}
			x.tries("s", src(c.next.text), c.next.name, want, api.OK)
			x.registers("s", src(c.next.text), c.next.name, 2, api.OK)
			x.again()
		}
	}
}

func TestWhichDecides(t *testing.T) { // P1802: which living version, and which way round
	type expect map[int]api.Break // by rule; of those that are left out none is broken
	for _, c := range []struct {
		versions []offer
		dropped  []int
		next     offer
		want     expect
	}{
		{ // the last alone, or the first of all that breaks
			[]offer{otherOne, wideOne}, nil, narrowOne,
			expect{1: breakAt1(2, "A", "B"), 3: breakAt1(2, "A", "B"), 4: breakAt1(2, "C", "B"), 5: breakAt1(2, "B", "C"), 6: breakAt1(2, "C", "B")},
		},
		{ // the first that breaks is not the first that is living
			[]offer{emptyOne, wideOne, otherOne}, nil, narrowOne,
			expect{1: breakAt1(2, "C", "B"), 2: breakAt1(2, "B", "C"), 3: breakAt1(2, "C", "B"), 4: breakAt1(2, "A", "B"), 5: breakAt1(2, "B", "C"), 6: breakAt1(2, "A", "B")},
		},
		{ // of an earlier version the other way round goes ahead of a later one
			[]offer{narrowOne, otherOne}, nil, wideOne,
			expect{1: breakAt1(2, "C", "A"), 2: breakAt1(2, "A", "C"), 3: breakAt1(2, "C", "A"), 4: breakAt1(2, "C", "A"), 5: breakAt1(2, "A", "B"), 6: breakAt1(2, "A", "B")},
		},
		{ // the last one is dropped: the last living one counts
			[]offer{otherOne, wideOne}, []int{2}, narrowOne,
			expect{1: breakAt1(2, "C", "B"), 2: breakAt1(2, "B", "C"), 3: breakAt1(2, "C", "B"), 4: breakAt1(2, "C", "B"), 5: breakAt1(2, "B", "C"), 6: breakAt1(2, "C", "B")},
		},
		{ // the first one is dropped
			[]offer{otherOne, wideOne}, []int{1}, narrowOne,
			expect{1: breakAt1(2, "A", "B"), 3: breakAt1(2, "A", "B"), 4: breakAt1(2, "A", "B"), 6: breakAt1(2, "A", "B")},
		},
		{ // one between is dropped
			[]offer{wideOne, otherOne, emptyOne}, []int{2}, narrowOne,
			expect{4: breakAt1(2, "A", "B"), 6: breakAt1(2, "A", "B")},
		},
		{ // all that would break are dropped
			[]offer{otherOne, loneOne, emptyOne}, []int{1, 2}, narrowOne, nil,
		},
		{ // the last two are dropped
			[]offer{narrowOne, loneOne, otherOne}, []int{3, 2}, wideOne,
			expect{2: breakAt1(2, "A", "B"), 3: breakAt1(2, "A", "B"), 5: breakAt1(2, "A", "B"), 6: breakAt1(2, "A", "B")},
		},
	} {
		for rule := range 7 {
			x := history(t, rule, c.dropped, c.versions...)
			if want, ok := c.want[rule]; ok {
				x.breaks("s", src(c.next.text), c.next.name, want)
			} else {
				x.tries("s", src(c.next.text), c.next.name, api.Break{}, api.OK)
				x.registers("s", src(c.next.text), c.next.name, len(c.versions)+1, api.OK)
			}
			x.again()
		}
	}
}

func TestErrBreaks(t *testing.T) { // P1802: too many pairs of types that meet, by which version and which way round
	single, repeated := offer{ring("A", 64, ""), "A0"}, offer{ring("B", 65, "repeated"), "B0"}
	plain := of("C", "string m = 1;")
	const backward, forward = 1, 2 // what a rule asks for
	asks := []int{0, backward, forward, backward | forward, backward, forward, backward | forward}
	for rule, ask := range asks {
		// What the ring of single fields wrote that of lists can read, if there were not so many pairs.
		x := history(t, rule, nil, single)
		switch {
		case ask&backward > 0:
			x.refuses("s", src(repeated.text), "B0", api.ErrBreaks)
		case ask == forward:
			x.breaks("s", src(repeated.text), "B0", breakAt1(api.BCard, "B0", "A0"))
		default:
			x.registers("s", src(repeated.text), "B0", 2, api.OK)
		}
		x = history(t, rule, nil, repeated)
		switch {
		case ask&backward > 0:
			x.breaks("s", src(single.text), "A0", breakAt1(api.BCard, "B0", "A0"))
		case ask == forward:
			x.refuses("s", src(single.text), "A0", api.ErrBreaks)
		default:
			x.registers("s", src(single.text), "A0", 2, api.OK)
		}
		// With another version that breaks: the first of both decides, if all are asked.
		x = history(t, rule, nil, plain, single)
		switch rule {
		case api.RNone:
			x.registers("s", src(repeated.text), "B0", 3, api.OK)
		case api.RBackward, api.RFull:
			x.refuses("s", src(repeated.text), "B0", api.ErrBreaks)
		case api.RForward:
			x.breaks("s", src(repeated.text), "B0", breakAt1(api.BCard, "B0", "A0"))
		case api.RForwardAll:
			x.breaks("s", src(repeated.text), "B0", breakAt1(api.BCard, "B0", "C"))
		default:
			x.breaks("s", src(repeated.text), "B0", breakAt1(api.BMessage, "C", "B0"))
		}
		x = history(t, rule, nil, single, plain)
		switch rule {
		case api.RNone:
			x.registers("s", src(repeated.text), "B0", 3, api.OK)
		case api.RBackward, api.RFull:
			x.breaks("s", src(repeated.text), "B0", breakAt1(api.BMessage, "C", "B0"))
		case api.RForward:
			x.breaks("s", src(repeated.text), "B0", breakAt1(api.BCard, "B0", "C"))
		case api.RForwardAll:
			x.breaks("s", src(repeated.text), "B0", breakAt1(api.BCard, "B0", "A0"))
		default:
			x.refuses("s", src(repeated.text), "B0", api.ErrBreaks)
		}
		// A dropped one is not asked.
		x = history(t, rule, []int{1}, single, emptyOne)
		x.registers("s", src(repeated.text), "B0", 3, api.OK)
		x.again()
	}
}

func TestHasItAlready(t *testing.T) { // P1801, P1802: what is living already is not asked about
	for rule := range 7 {
		x := history(t, rule, nil, otherOne, wideOne, loneOne, narrowOne)
		for i, v := range []offer{otherOne, wideOne, loneOne, narrowOne} {
			x.tries("s", src(v.text), v.name, api.Break{}, api.OK)
			x.registers("s", src(v.text), v.name, i+1, api.OK)
		}
		// What was dropped is.
		x.drops("s", 3, api.OK)
		if rule == api.RNone {
			x.registers("s", src(loneOne.text), "E", 5, api.OK)
		} else {
			x.registers("s", src(loneOne.text), "E", 0, api.ErrRefused)
		}
		ringed := history(t, rule, nil, offer{ring("A", 64, ""), "A0"}, offer{ring("B", 65, ""), "B0"})
		ringed.registers("s", src(ring("A", 64, "")), "A0", 1, api.OK)
	}
}

func TestAllHistories(t *testing.T) { // P1802: every history of up to three versions of five, with any of them dropped, by every rule
	all := []offer{wideOne, narrowOne, otherOne, emptyOne, of("F", "repeated int64 a = 1;")}
	count := len(all)
	told := map[bool]int{}
	for n := range count * count * count {
		picked := []offer{all[n%count], all[n/count%count], all[n/count/count]}
		if picked[0] == picked[1] || picked[1] == picked[2] || picked[0] == picked[2] {
			continue
		}
		for mask := range 8 {
			var dropped []int
			for i := range 3 {
				if mask>>i&1 == 1 {
					dropped = append(dropped, i+1)
				}
			}
			x := history(t, api.RNone, dropped, picked...)
			for rule := range 7 {
				x.rules("s", rule, api.OK)
				for _, next := range all {
					b, e := x.try("s", src(next.text), next.name)
					if e != api.OK {
						t.Fatal(e)
					}
					told[b.Rule == 0]++
				}
			}
		}
	}
	if told[true] < 1000 || told[false] < 1000 {
		t.Errorf("too few of a kind: %v", told)
	}
}

func TestRuleErrors(t *testing.T) { // P1803: each error of Rule, and of two the first
	x := fresh(t)
	for _, rule := range []int{0, 1, 6, 7, -1} {
		x.rules("s", rule, api.ErrSubject)
		x.rules("", rule, api.ErrSubject)
		x.rules(long(255), rule, api.ErrSubject)
		x.rules(long(256), rule, api.ErrLong)
	}
	x.registers("s", fileA, "M", 1, api.OK)
	for _, rule := range []int{7, 8, -1, -2, 255, 256, 257, 1 << 32, 1<<32 + 1, -1 << 63, 1<<63 - 1} {
		x.rules("s", rule, api.ErrRule)
		x.rules("t", rule, api.ErrSubject)
		x.rules(long(256), rule, api.ErrLong)
	}
	x.alike()
}

func TestRule(t *testing.T) { // P1803: from every rule to every one; to the one that it is nothing is done
	x := fresh(t)
	x.registers("s", fileA, "M", 1, api.OK)
	x.registers("t", fileC, "M", 1, api.OK)
	for old := range 7 {
		for next := range 7 {
			x.rules("s", old, api.OK)
			before := len(x.r.Log())
			x.rules("s", next, api.OK)
			if wrote := len(x.r.Log()) - before; (wrote == 0) != (old == next) {
				t.Errorf("P1803: from %d to %d: %d bytes", old, next, wrote)
			}
			if l := x.r.List(); l[0].Rule != next || l[1].Rule != api.RBackward {
				t.Errorf("P1803: %v", l)
			}
		}
	}
	// What is there is not asked about, nor that anything is living.
	x = history(t, api.RNone, nil, wideOne, otherOne, narrowOne)
	for rule := range 7 {
		x.rules("s", rule, api.OK)
	}
	for n := range 3 {
		x.drops("s", n+1, api.OK)
	}
	for rule := range 7 {
		x.rules("s", rule, api.OK)
	}
	x.again()
}

func TestDropErrors(t *testing.T) { // P1803: each error of Drop, and of two the first
	x := fresh(t)
	numbers := []int{-1 << 63, -1, 0, 3, 256, 257, 258, 65536, 65537, 1 << 32, 1<<32 + 1, 1<<63 - 1}
	for _, n := range append(numbers, 1, 2) {
		x.drops("s", n, api.ErrSubject)
		x.drops("", n, api.ErrSubject)
		x.drops(long(255), n, api.ErrSubject)
		x.drops(long(256), n, api.ErrLong)
	}
	x.registers("s", fileA, "M", 1, api.OK)
	x.registers("s", fileB, "M", 2, api.OK)
	for _, n := range numbers {
		x.drops("s", n, api.ErrVersion)
		x.drops("t", n, api.ErrSubject)
	}
	for _, n := range []int{2, 1} {
		x.drops("s", n, api.OK)
		for range 3 {
			x.drops("s", n, api.ErrGone)
		}
	}
	for _, n := range numbers {
		x.drops("s", n, api.ErrVersion)
	}
	x.alike()
	x.again()
}
