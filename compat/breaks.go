package compat

import (
	"slices"

	"sigil/api"
)

// fault is a rule that a pair breaks, at a number.
type fault struct{ rule, number int }

// breaks tells the breaks of all pairs, the first so many of them at most.
func (m *meeting) breaks(most int) []api.Break {
	var l []api.Break
	for i, p := range m.pairs {
		for _, b := range append(p.fieldFaults(m.rules), p.oneofFaults()...) {
			if len(l) == most {
				return l
			}
			l = append(l, api.Break{Rule: b.rule, Path: m.path(i, b.number), Old: p.old.Name, New: p.now.Name})
		}
	}
	return l
}

// fieldFaults tells what is broken at the fields of the old type.
func (p pair) fieldFaults(rules []rule) []fault {
	var l []fault
	for _, f := range p.old.Fields {
		g, ok := numbered(p.now, f.Number)
		why := 0
		switch {
		case ok:
			why = broken(rules, f, g)
		case !reserved(p.now, f.Number):
			why = api.BGone
		}
		if why != 0 {
			l = append(l, fault{why, f.Number})
		}
	}
	return l
}

// oneofFaults tells what is broken at the oneofs of the new type.
func (p pair) oneofFaults() []fault {
	members := make([][]api.Field, len(p.now.Oneofs)) // of each oneof the fields of the old type
	for _, f := range p.old.Fields {
		if g, ok := numbered(p.now, f.Number); ok && g.Oneof > 0 {
			members[g.Oneof-1] = append(members[g.Oneof-1], f)
		}
	}
	var l []fault
	for _, fields := range members {
		if len(fields) > 1 && !together(fields) {
			l = append(l, fault{api.BOneof, fields[0].Number})
		}
	}
	return l
}

// together says whether fields of a type are all members of one oneof: then no two of them are there at a time.
func together(fields []api.Field) bool {
	oneof := fields[0].Oneof
	return oneof > 0 && !slices.ContainsFunc(fields, func(f api.Field) bool { return f.Oneof != oneof })
}

// reserved says whether a message reserves a number.
func reserved(m *api.Message, number int) bool {
	_, ok := slices.BinarySearchFunc(m.Reserved, number, func(r api.Range, n int) int {
		switch {
		case r.To < n:
			return -1
		case r.From > n:
			return 1
		}
		return 0
	})
	return ok
}
