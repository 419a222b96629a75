package stream_test

import (
	"fmt"
	"sync"
	"testing"

	"sigil/api"
	"sigil/stream"
)

// question is what all calls are handed.
type question struct {
	made
	b []byte
}

// questions are made ones, so many, some of which are refused.
func questions(t testing.TB, n int) []question {
	t.Helper()
	var out []question
	for i, c := range mades(t, n, 6) {
		m := newMaker(int64(i))
		q := question{c, m.stream(t, c)}
		switch m.Intn(8) {
		case 0:
			q.b = m.mangled(c.h, q.b)
		case 1:
			q.b = turned(q.b, m.Intn(len(secondHead(c.h))), 1)
		case 2:
			q.h.Per = pick(m, 0, 257)
		case 3:
			q.h.Type += "x"
		case 4:
			q.h.Sources = q.h.Sources[1:]
		case 5:
			for i := range q.l {
				q.l[i] = m.broken(q.l[i])
			}
		}
		out = append(out, q)
	}
	return out
}

// answers is all that the calls answer to a question.
type answers struct {
	packed, appended, mended []byte
	head                     api.Head
	read, each               []api.Value
	hurts, mendHurts         []api.Hurt
	numbers                  [3]int
	errors                   [6]api.Errno
}

// answered asks all calls.
func answered(q question) answers {
	var a answers
	a.packed, a.numbers[0], a.errors[0] = stream.Pack(q.h, q.l)
	a.head, a.numbers[1], a.errors[1] = stream.Look(q.b)
	a.read, a.hurts, a.errors[2] = stream.Read(q.b)
	all, e := stream.Each(q.b)
	if a.errors[3] = e; e == api.OK {
		for _, v := range all {
			a.each = append(a.each, v)
		}
	}
	a.appended, a.numbers[2], a.errors[4] = stream.Append(q.b, q.l)
	a.mended, a.mendHurts, a.errors[5] = stream.Mend(q.b)
	return a
}

// told tells answers; nil and empty lists are the same.
func (a answers) told() string { return fmt.Sprintf("%+v", a) }

func TestAskedAgain(t *testing.T) { // P3: the same again, whatever was asked between; what was refused leaves nothing behind
	l := questions(t, 200)
	met := map[api.Errno]int{}
	var before []string
	for _, q := range l {
		a := answered(q)
		before = append(before, a.told())
		for _, e := range a.errors {
			met[e]++
		}
	}
	for round := range 2 {
		for _, i := range newMaker(int64(round)).Perm(len(l)) {
			if got := answered(l[i]).told(); got != before[i] {
				t.Fatalf("P3: asked again: %.300s, before it was %.300s", got, before[i])
			}
		}
	}
	for _, e := range []api.Errno{api.OK, api.ErrHead, api.ErrSum, api.ErrArg, api.ErrName, api.ErrBlock, api.ErrType} {
		if met[e] < 3 {
			t.Errorf("%d answers are %v: too few", met[e], e)
		}
	}
}

func TestAskedAtOnce(t *testing.T) { // P3: several that ask at the same time
	l := questions(t, 60)
	var want []string
	for _, q := range l {
		want = append(want, answered(q).told())
	}
	var all sync.WaitGroup
	for i := range 8 {
		all.Go(func() {
			for j := range l {
				k := (i*7 + j) % len(l)
				if got := answered(l[k]).told(); got != want[k] {
					t.Errorf("P3: asked with others: %.300s, want %.300s", got, want[k])
				}
			}
		})
	}
	all.Wait()
}

func TestSameNames(t *testing.T) { // P3: streams whose schemas have the same names, in turns
	x := headFor(`syntax = "proto3"; message M { int32 a = 1; }`, "M", 2)
	y := headFor(`syntax = "proto3"; message M { sint32 a = 1; }`, "M", 2)
	z := headFor(`syntax = "proto3"; message M { repeated int32 a = 1; }`, "M", 2)
	for range 3 {
		bx, by := packed(t, x, as(0, 5)...), packed(t, y, as(0, 5)...)
		bz := packed(t, z, msg(at(1, list(num(1)))))
		reads(t, bx, as(0, 5))
		reads(t, by, as(0, 5))
		reads(t, bz, []api.Value{msg(at(1, list(num(1))))})
		packRefuses(t, x, []api.Value{msg(at(1, list(num(1))))}, 0, api.ErrType)
		packRefuses(t, z, []api.Value{a(1)}, 0, api.ErrType)
		appendRefuses(t, bz, []api.Value{msg(), a(1)}, 1, api.ErrType)
		reads(t, join(bx, by[len(bx)-1:]), as(0, 5), api.Hurt{From: len(bx), To: len(by) + 1, Err: api.ErrBlock})
	}
}
