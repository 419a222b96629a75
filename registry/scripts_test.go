package registry_test

import (
	"fmt"
	"testing"

	"sigil/api"
	"sigil/registry"
)

// The calls of a step.
const (
	callRegister = iota
	callTry
	callRule
	callDrop
	callGet
	callFind
	callList
	callLog
	callRead
)

// step is one call with what it is handed.
type step struct {
	call    int
	subject string
	files   []api.Source
	name    string
	a, b    int
	bytes   []byte
}

// answer is what a step answers.
type answer struct {
	number  int
	broken  api.Break
	version api.Version
	places  []api.Place
	list    []api.Subject
	log     []byte
	value   api.Value
	errno   api.Errno
}

// do asks a registry.
func (s step) do(r *registry.Registry) answer {
	var a answer
	switch s.call {
	case callRegister:
		a.number, a.errno = r.Register(s.subject, s.files, s.name)
	case callTry:
		a.broken, a.errno = r.Try(s.subject, s.files, s.name)
	case callRule:
		a.errno = r.Rule(s.subject, s.a)
	case callDrop:
		a.errno = r.Drop(s.subject, s.a)
	case callGet:
		a.version, a.errno = r.Get(s.subject, s.a)
	case callFind:
		a.places, a.errno = r.Find(s.bytes)
	case callList:
		a.list = r.List()
	case callLog:
		a.log = r.Log()
	case callRead:
		a.value, a.errno = r.Read(s.subject, s.a, s.b, s.bytes)
	}
	return a
}

// doSecond asks the second reading.
func (s step) doSecond(r *second) answer {
	var a answer
	switch s.call {
	case callRegister:
		a.number, a.errno = r.register(s.subject, s.files, s.name)
	case callTry:
		a.broken, a.errno = r.try(s.subject, s.files, s.name)
	case callRule:
		a.errno = r.setRule(s.subject, s.a)
	case callDrop:
		a.errno = r.drop(s.subject, s.a)
	case callGet:
		a.version, a.errno = r.get(s.subject, s.a)
	case callFind:
		if a.errno = api.ErrArg; len(s.bytes) == 32 {
			a.places, a.errno = r.find(s.bytes), api.OK
		}
	case callList:
		a.list = r.list()
	case callLog:
		a.log = append(a.log, r.log...)
	case callRead:
		a.value, a.errno = r.read(s.subject, s.a, s.b, s.bytes)
	}
	return a
}

// acts says whether a step may change something.
func (s step) acts() bool { return s.call == callRegister || s.call == callRule || s.call == callDrop }

// told tells an answer; nil and empty lists are the same.
func (a answer) told() string { return fmt.Sprintf("%+v", a) }

// step asks both.
func (x twin) step(s step) answer {
	x.t.Helper()
	before := len(x.s.log)
	a, want := s.do(x.r), s.doSecond(x.s)
	if a.told() != want.told() {
		x.t.Fatalf("P%d: %s = %.500s, want %.500s", 1800+[]int{1, 2, 3, 3, 4, 4, 4, 6, 5}[s.call], some(s), a.told(), want.told())
	}
	if (!s.acts() || a.errno != api.OK) && len(x.s.log) != before {
		x.t.Fatal("P1811: what is refused or asked is written")
	}
	x.logs()
	return a
}

// world is of what a script is made.
type world struct {
	subjects []string
	schemas  []made
}

// world makes schemas that come of one another, some of them by changes that break rules.
func (m *maker) world() world {
	w := world{subjects: mixed(m, []string{"s", "t", "\xff\x00", "a subject", long(255)})[:1+m.Intn(3)], schemas: []made{m.schema()}}
	for range 2 + m.Intn(5) {
		from := w.schemas[m.Intn(len(w.schemas))]
		by := pick(m, change{wider: 4}, change{gone: 5, wider: 5}, change{gone: 8, wider: 4, fresh: 2}, change{fresh: 1}, change{wild: 8, wider: 4}, change{letter: true})
		w.schemas = append(w.schemas, m.next(from, by))
	}
	if m.often(4) {
		w.schemas = append(w.schemas, m.schema())
	}
	return w
}

// step makes a step for a registry that is as the second reading tells it.
func (m *maker) step(t testing.TB, w world, r *second) step {
	s := step{call: pick(m, callRegister, callRegister, callRegister, callRegister, callTry, callTry, callRule, callDrop, callDrop, callGet, callFind, callList, callLog, callRead, callRead, callRead), subject: pick(m, w.subjects...)}
	if m.often(40) {
		s.subject = pick(m, "", long(256), "not there")
	}
	l := r.editions(s.subject)
	some := func() int {
		if m.often(15) {
			return pick(m, 0, -1, len(l)+1, 257)
		}
		return 1 + m.Intn(max(1, len(l)))
	}
	s.a, s.b = some(), some()
	switch s.call {
	case callRegister, callTry:
		from := pick(m, w.schemas...)
		s.files = m.sources(from)
		s.name = fmt.Sprint(from.letter, pick(m, 0, 0, 0, 0, m.Intn(len(from.messages))))
		if m.often(40) {
			s.name = pick(m, "", from.letter+"E", long(256), "A9")
		}
		if m.often(40) {
			s.files[0].Text += "x"
		}
	case callRule:
		s.a = pick(m, 0, 1, 2, 3, 4, 4, 5, 5, 6, 6, m.Intn(12)-2)
	case callFind:
		s.bytes = make([]byte, 32)
		if len(l) > 0 {
			s.bytes = l[m.Intn(len(l))].Print
		}
		if m.often(10) {
			s.bytes = s.bytes[:pick(m, 0, 31)]
		}
	case callRead:
		if s.a >= 1 && s.a <= len(l) {
			v := l[s.a-1]
			s.bytes = m.written(t, v.schema, v.Type)
		}
		if m.often(10) {
			s.bytes = append(s.bytes, 0)
		}
	}
	return s
}

// script makes steps, so many, one for what the others made of a registry.
func (m *maker) script(t testing.TB, n int) []step {
	t.Helper()
	w, r := m.world(), newSecond()
	var l []step
	for range n {
		s := m.step(t, w, r)
		s.doSecond(r)
		l = append(l, s)
	}
	return l
}

func TestScripts(t *testing.T) { // P1801 to P1807, P1811: made scripts, with registries opened anew in between and gone on with
	met := map[string]int{}
	for seed := range int64(250) {
		m := newMaker(seed)
		x := fresh(t)
		for _, s := range m.script(t, 40) {
			a := x.step(s)
			met[fmt.Sprint(s.call, a.errno)]++
			if s.call == callTry && a.broken.Rule != 0 {
				met["break"]++
			}
			if m.often(6) {
				x = x.again()
			}
		}
		x.alike()
		x.again()
		cuts(t, m, x)
	}
	for _, c := range []struct {
		call  int
		errno api.Errno
		least int
	}{
		{callRegister, api.OK, 500}, {callRegister, api.ErrRefused, 100}, {callRegister, api.ErrName, 20}, {callRegister, api.ErrSubject, 5}, {callRegister, api.ErrLong, 5},
		{callTry, api.OK, 300}, {callRule, api.OK, 100}, {callRule, api.ErrRule, 10}, {callRule, api.ErrSubject, 10}, {callDrop, api.OK, 200}, {callDrop, api.ErrGone, 20}, {callDrop, api.ErrVersion, 10},
		{callGet, api.OK, 100}, {callGet, api.ErrVersion, 5}, {callFind, api.OK, 100}, {callFind, api.ErrArg, 10}, {callRead, api.OK, 300}, {callRead, api.ErrCompat, 50}, {callRead, api.ErrGone, 50}, {callRead, api.ErrNumber, 3},
	} {
		if n := met[fmt.Sprint(c.call, c.errno)]; n < c.least {
			t.Errorf("%d answers of the call %d are %v: too few", n, c.call, c.errno)
		}
	}
	if met["break"] < 100 {
		t.Errorf("%d breaks: too few", met["break"])
	}
}

// cuts looks at P1807 and P1808: fronts of a log, and logs with bits turned over.
func cuts(t *testing.T, m *maker, x twin) {
	t.Helper()
	log := x.r.Log()
	at := ends(log)
	l := fronts(t, log, at)
	for k, y := range l {
		if len(y.s.done) != k {
			t.Fatalf("P1807: of %d records %d are done", k, len(y.s.done))
		}
		y.alike()
	}
	for range 20 {
		n := len(head) + m.Intn(len(log)-len(head)+1)
		holds(t, log[:n], at[whole(at, n)])
	}
	if len(at) == 1 {
		return
	}
	for range 40 {
		from := 8*len(head) + m.Intn(8*(len(log)-len(head)))
		broken(t, log, turnedBits(log, from, 1|uint64(m.Uint32())), from, l, at)
	}
}

func TestGoneOn(t *testing.T) { // P1807: a registry that is opened anew ahead of every step answers as one that never is
	for seed := range int64(40) {
		m := newMaker(1000 + seed)
		r, _, _ := registry.Open(nil)
		log := []byte(nil)
		for _, s := range m.script(t, 40) {
			q, _, e := registry.Open(log)
			if e != api.OK {
				t.Fatal(e)
			}
			if a, b := s.do(r).told(), s.do(q).told(); a != b {
				t.Fatalf("P1807: %s = %.300s, opened anew %.300s", some(s), a, b)
			}
			log = q.Log()
		}
	}
}

func TestAskedOnly(t *testing.T) { // P1811: without all that is asked and refused the acts answer the same, and write the same
	for seed := range int64(60) {
		m := newMaker(2000 + seed)
		l := m.script(t, 50)
		r, _, _ := registry.Open(nil)
		q, _, _ := registry.Open(nil)
		for _, s := range l {
			a := s.do(r)
			if s.acts() && a.errno == api.OK {
				if b := s.do(q); a.told() != b.told() {
					t.Fatalf("P1811: %s = %.300s, without what is asked %.300s", some(s), a.told(), b.told())
				}
			}
		}
		if string(r.Log()) != string(q.Log()) {
			t.Fatal("P1811: what is refused or asked changes something")
		}
	}
}
