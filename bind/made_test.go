package bind_test

import (
	"fmt"
	"math/rand"
	"slices"
	"strings"
	"testing"

	"sigil/api"
	"sigil/bind"
)

// maker makes sources: mostly right ones, with names that come again in many scopes; wild ones break rules more often.
type maker struct {
	*rand.Rand
	wild  bool
	taken map[string]bool // full names and package parts
	types []string        // the full names of all messages and enums
}

// plan is a message or an enum that is to be declared.
type plan struct {
	name, full string
	enum       bool
	inner      []plan
}

// made are the sources of a seed.
func made(seed int64) []api.Source {
	m := &maker{Rand: rand.New(rand.NewSource(seed)), wild: seed%3 == 0, taken: map[string]bool{}}
	names := []string{"a", "b", "x/y.proto", "."}[:1+m.Intn(4)]
	var packs []string
	for range names {
		pack := m.pick("", "", "a", "a.b", "b", "a.b.a", "M", "c.c")
		packs = append(packs, pack)
		for _, part := range partsOf(pack) {
			m.taken[part] = true
		}
	}
	var plans [][]plan
	for _, pack := range packs {
		plans = append(plans, m.plans(pack, 1))
	}
	var l []api.Source
	for i, name := range names {
		others := slices.Delete(slices.Clone(names), i, i+1)
		l = append(l, api.Source{Name: name, Text: begin + m.source(others, packs[i], plans[i])})
	}
	return l
}

// seldom says yes now and then: more often if the maker is wild.
func (m *maker) seldom() bool {
	if m.wild {
		return m.Intn(60) == 0
	}
	return m.Intn(1000) == 0
}

func (m *maker) pick(l ...string) string { return l[m.Intn(len(l))] }

// mix puts statements into any order, with something between that changes nothing.
func (m *maker) mix(l []string) string {
	l = slices.Clone(l)
	m.Shuffle(len(l), func(i, j int) { l[i], l[j] = l[j], l[i] })
	return strings.Join(l, m.pick(" ", "\n", " ; ", "/* ; */", "// }\n", "\t;;"))
}

// plans are messages and enums in a scope.
func (m *maker) plans(scope string, deep int) []plan {
	var l []plan
	for range m.Intn(4) {
		name := m.name(scope)
		p := plan{name: name, full: strings.TrimPrefix(scope+"."+name, "."), enum: m.Intn(4) == 0}
		m.types = append(m.types, p.full)
		if !p.enum && deep < 4 && m.Intn(3) > 0 {
			p.inner = m.plans(p.full, deep+1)
		}
		l = append(l, p)
	}
	return l
}

// name is a name that is new in its scope, but seldom.
func (m *maker) name(scope string) string {
	for range 20 {
		name := m.pick("a", "b", "c", "A", "B", "M", "int32", "string")
		full := strings.TrimPrefix(scope+"."+name, ".")
		if m.seldom() || !m.taken[full] {
			m.taken[full] = true
			return name
		}
	}
	return fmt.Sprint("spare", m.Intn(1<<30))
}

func (m *maker) source(others []string, pack string, plans []plan) string {
	var l []string
	for _, other := range others {
		if m.Intn(8) > 0 {
			l = append(l, "import '"+other+"';")
		}
	}
	if m.seldom() {
		l = append(l, "import '"+m.pick("a", "b", "none")+"';")
	}
	if pack != "" {
		l = append(l, "package "+pack+";")
	}
	for _, p := range plans {
		l = append(l, m.declared(p))
	}
	return m.mix(l) + either(m.wild && m.Intn(100) == 0, "}", "")
}

func (m *maker) declared(p plan) string {
	if p.enum {
		return m.enum(p.name)
	}
	l := m.reserved(100)
	for _, in := range p.inner {
		l = append(l, m.declared(in))
	}
	numbers, n := m.Perm(20), 0
	field := func(oneof bool) string {
		n++
		number := numbers[n] + 1
		switch {
		case m.seldom():
			number = []int{0, 1, 2, 19000, 18999, 19999, 20000, 536870911, 536870912, 101, 103}[m.Intn(11)]
		case m.Intn(30) == 0:
			number = 18970 + number
		}
		name := m.pick("f", "f_g", "_f", "F_", "f__x_") + fmt.Sprint(n)
		if m.seldom() {
			name = m.pick("f1", "f2", "f_1", "f_2_", "a", "A", "o1", "gone", "_")
		}
		return fmt.Sprintf("%s %s = %d;", m.card(oneof), name, number)
	}
	for range m.Intn(5) {
		l = append(l, field(false))
	}
	for i := range m.Intn(3) {
		fields := []string{field(true)}
		for range m.Intn(3) {
			fields = append(fields, field(true))
		}
		oneof := either(m.seldom(), m.pick("o1", "a", "A", "f1"), fmt.Sprint("o", 9-i))
		l = append(l, "oneof "+oneof+" { "+m.mix(fields)+" }")
	}
	return "message " + p.name + " { " + m.mix(l) + " }"
}

// card is a field's card and type.
func (m *maker) card(oneof bool) string {
	typ := m.typ()
	if oneof {
		return typ
	}
	switch m.Intn(5) {
	case 0:
		return "optional " + typ
	case 1:
		return "repeated " + typ
	case 2:
		key := m.pick(strings.Fields(keyWords)...)
		if m.seldom() {
			key = m.pick("bytes", "float", "double", "A", ".string")
		}
		return "map<" + key + ", " + typ + ">"
	}
	return typ
}

// typ is a scalar's word, a full name, a piece of one, or any names.
func (m *maker) typ() string {
	switch n := m.Intn(40); {
	case n < 16:
		return m.pick(words[1:]...)
	case n < 34:
		return "." + m.pick(m.types...)
	case n < 38 || !m.wild:
		names := strings.Split(m.pick(m.types...), ".")
		return strings.Join(names[m.Intn(len(names)):], ".")
	}
	typ := m.pick("", ".") + m.pick("a", "b", "c", "A", "B", "M")
	for range m.Intn(4) {
		typ += "." + m.pick("a", "b", "c", "A", "B", "M", "int32")
	}
	return typ
}

// reserved are statements that reserve numbers from one on, and names: those that no field has, but seldom.
func (m *maker) reserved(from int) []string {
	var l []string
	for range m.Intn(4) {
		from += 1 + m.Intn(3)*m.Intn(3)
		to := from + m.Intn(3)
		l = append(l, either(from == to, fmt.Sprintf("reserved %d;", from), fmt.Sprintf("reserved %d to %d;", from, to)))
		from = to
		if m.seldom() {
			from--
		}
	}
	for i, name := range []string{"gone", "r", "q"} {
		if m.Intn(3+i) == 0 {
			l = append(l, `reserved "`+name+`";`)
		}
		if m.seldom() {
			l = append(l, `reserved "`+m.pick("r", "q", "f1", "v1")+`";`)
		}
	}
	return l
}

func (m *maker) enum(name string) string {
	l := m.reserved([]int{-100, -3, 100}[m.Intn(3)])
	if !m.wild {
		l = m.reserved([]int{-100, 100}[m.Intn(2)])
	}
	for i, n := range m.Perm(8)[:m.Intn(6)] {
		number := n - 4
		if number == 0 && !m.seldom() {
			number = -1 << 31
		}
		l = append(l, fmt.Sprintf("%s = %d;", either(m.seldom(), m.pick("v1", "gone", "zero"), fmt.Sprint("v", i)), number))
	}
	return "enum " + name + " { zero = " + either(m.seldom(), "1", "0") + "; " + m.mix(l) + " }"
}

// spreadOtherwise are sources that declare what a schema does: each package's declarations in any order, over several sources, each of which imports all others.
func spreadOtherwise(m *second, seed int64) []api.Source {
	r := &maker{Rand: rand.New(rand.NewSource(seed))}
	count := 4 + r.Intn(13)
	packs := make([]string, count)
	all := append(m.packages(), m.packages()...)
	for i := range packs {
		packs[i] = all[i%len(all)]
	}
	statements := make([][]string, count)
	for i, pack := range packs {
		if pack != "" {
			statements[i] = append(statements[i], "package "+pack+";")
		}
		for j := range packs {
			if j != i {
				statements[i] = append(statements[i], fmt.Sprintf("import 's%d';", j))
			}
		}
	}
	for _, d := range m.types {
		if len(d.names) > 1 {
			continue
		}
		i := r.Intn(count)
		for packs[i] != d.pack {
			i = (i + 1) % count
		}
		statements[i] = append(statements[i], m.declaration(d, r.mix))
	}
	var l []api.Source
	for i := range packs {
		l = append(l, api.Source{Name: fmt.Sprint("s", i), Text: begin + r.mix(statements[i])})
	}
	return l
}

func TestMade(t *testing.T) { // P701 to P709: made sources against the second reading, and what is declared the same
	faults := map[api.Errno]int{}
	for seed := range int64(3000) {
		l := made(seed)
		m, want := loadSecond(l)
		s, bad := bind.Load(l)
		if faults[bad.Err]++; bad != want || (s == nil) == (bad == api.Fault{}) {
			t.Fatalf("P701: seed %d: %q: %+v, want %+v", seed, l, bad, want)
		}
		if s == nil || faults[api.OK] > 500 {
			continue
		}
		answer := told(s)
		if want := told(m); answer != want {
			t.Fatalf("P705: seed %d: %q: answers\n%s\nwant\n%s", seed, l, answer, want)
		}
		again(t, s)
		if len(m.types) == 0 {
			continue
		}
		if other := spreadOtherwise(m, seed); told(load(t, other)) != answer {
			t.Fatalf("P709: seed %d: %q answers otherwise than %q", seed, other, l)
		}
	}
	for _, e := range []api.Errno{api.OK, api.ErrSyntax, api.ErrImport, api.ErrTwice, api.ErrReserved, api.ErrFieldNumber, api.ErrJsonName, api.ErrMapKey, api.ErrEnumValue, api.ErrUnknown, api.ErrNoType} {
		if faults[e] < 5 {
			t.Errorf("the made sources show %v too seldom: %v", e, faults)
		}
	}
}
