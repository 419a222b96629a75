package sign_test

import (
	"fmt"
	"sync"
	"testing"

	"sigil/api"
	"sigil/bind"
	"sigil/sign"
)

// question is what all calls are handed.
type question struct {
	made
	path  string
	root  []byte
	proof api.Proof
}

// ask makes a question, sometimes one that is refused.
func (m *maker) ask(t testing.TB, c made) question {
	t.Helper()
	q := question{made: c, path: pick(m, pathsOf(c.s, c.name, c.m)...)}
	q.root, _ = sign.Commit(c.s, c.name, c.m)
	q.proof, _ = sign.Open(c.s, c.name, c.m, q.path)
	switch m.Intn(6) {
	case 0:
		q.m = m.broken(q.m)
	case 1:
		q.proof = m.forged(q.proof, []api.Proof{q.proof})
	case 2:
		q.path += "[0]"
	case 3:
		q.root = q.root[:m.Intn(33)]
	}
	return q
}

// questions are made ones, so many.
func questions(t testing.TB, n int) []question {
	t.Helper()
	var l []question
	for i, c := range mades(t, n) {
		l = append(l, newMaker(int64(i)).ask(t, c))
	}
	return l
}

// answers is all that the calls answer to a question.
type answers struct {
	schema, typ, preimage, message, commit []byte
	proof                                  api.Proof
	errors                                 [6]api.Errno
}

// answered asks all calls.
func answered(q question) answers {
	var a answers
	a.schema = sign.Schema(q.s)
	a.typ, a.errors[0] = sign.Type(q.s, q.name)
	a.preimage, a.errors[1] = sign.Preimage(q.s, q.name, q.m)
	a.message, a.errors[2] = sign.Message(q.s, q.name, q.m)
	a.commit, a.errors[3] = sign.Commit(q.s, q.name, q.m)
	a.proof, a.errors[4] = sign.Open(q.s, q.name, q.m, q.path)
	a.errors[5] = sign.Verify(q.s, q.name, q.root, q.proof)
	return a
}

// told tells answers; nil and empty lists are the same.
func (a answers) told() string { return fmt.Sprintf("%+v", a) }

func TestAskedAgain(t *testing.T) { // P3: the same again, whatever was asked between; what was refused leaves nothing behind
	l := questions(t, 300)
	met := map[api.Errno]int{}
	var before []string
	for _, q := range l {
		a := answered(q)
		before = append(before, a.told())
		for _, e := range a.errors {
			met[e]++
		}
	}
	for round := range 3 {
		for _, i := range newMaker(int64(round)).Perm(len(l)) {
			if got := answered(l[i]).told(); got != before[i] {
				t.Fatalf("P3: asked again: %.300s, before it was %.300s", got, before[i])
			}
		}
	}
	for _, e := range []api.Errno{api.OK, api.ErrType, api.ErrNormal, api.ErrForged, api.ErrProof, api.ErrNothing, api.ErrInto} {
		if met[e] < 3 {
			t.Errorf("%d answers are %v: too few", met[e], e)
		}
	}
}

func TestOtherSchemaObjects(t *testing.T) { // P3: a schema loaded anew answers the same
	for _, q := range questions(t, 200) {
		want := answered(q).told()
		s, bad := bind.Load(q.s.Texts())
		if bad.Err != api.OK {
			t.Fatal(bad)
		}
		q.s = s
		if got := answered(q).told(); got != want {
			t.Fatalf("P3: of the same schema loaded anew: %.300s, want %.300s", got, want)
		}
	}
}

func TestTwoSchemas(t *testing.T) { // P3: schemas with the same names, in turns
	a := load(t, "message M { int32 a = 1; M m = 2; }")
	b := load(t, "message M { repeated int32 a = 1; map<int32, M> m = 2; }")
	c := load(t, "message M { sint32 a = 1; repeated M m = 2; }")
	for range 3 {
		opens(t, a, "M", one(2, one(1, num(1))), "m.a")
		opens(t, b, "M", one(2, dict(pair(num(1), one(1, list(num(1)))))), "m[1].a[0]")
		opens(t, c, "M", one(2, list(one(1, num(1)))), "m[0].a")
		for _, s := range []*bind.Schema{a, b, c} {
			commits(t, s, "M", msg())
			speaks(t, s, "M", msg())
			prints(t, s, "M", secondType(s, "M"))
		}
		commitRefuses(t, a, "M", one(1, list(num(1))), api.ErrType)
		openRefuses(t, b, "M", msg(), "m.a", api.ErrInto)
		openRefuses(t, c, "M", msg(), "m.a", api.ErrInto)
	}
}

func TestAskedAtOnce(t *testing.T) { // P3: several that ask at the same time, of the same schemas
	l := questions(t, 60)
	var want []string
	for _, q := range l {
		want = append(want, answered(q).told())
	}
	var all sync.WaitGroup
	for i := range 8 {
		all.Go(func() {
			for j := range l {
				k := (i*7 + j) % len(l)
				if got := answered(l[k]).told(); got != want[k] {
					t.Errorf("P3: asked with others: %.300s, want %.300s", got, want[k])
				}
			}
		})
	}
	all.Wait()
}
