package registry

import (
	"sigil/api"
	"sigil/compat"
)

// check asks whether what one of two versions wrote the other can read.
type check func(old, next version) (api.Break, api.Errno)

// backward asks whether the next version can read what the old one wrote.
func backward(old, next version) (api.Break, api.Errno) {
	return compat.Check(old.schema, old.typ, next.schema, next.typ)
}

// forward asks whether the old version can read what the next one wrote.
func forward(old, next version) (api.Break, api.Errno) { return backward(next, old) }

// asked tells what a rule asks of a living version and the next one, in this order, and whether it asks it of all living ones, not of the last alone.
func asked(rule int) (checks []check, all bool) {
	switch rule {
	case api.RBackward:
		return []check{backward}, false
	case api.RForward:
		return []check{forward}, false
	case api.RFull:
		return []check{backward, forward}, false
	case api.RBackwardAll:
		return []check{backward}, true
	case api.RForwardAll:
		return []check{forward}, true
	case api.RFullAll:
		return []check{backward, forward}, true
	}
	return nil, false
}

// judge tells what the rule of a subject says of the next version: the first break, one of zeros if there is none, or ErrBreaks.
func (s subject) judge(next version) (api.Break, api.Errno) {
	checks, all := asked(s.rule)
	for _, old := range s.before(all) {
		for _, ask := range checks {
			if b, e := ask(old, next); e != api.OK || b.Rule != 0 {
				return b, e
			}
		}
	}
	return api.Break{}, api.OK
}

// before tells the living versions, or the last of them alone.
func (s subject) before(all bool) []version {
	var l []version
	for _, v := range s.living {
		l = append(l, v)
	}
	if !all && len(l) > 0 {
		return l[len(l)-1:]
	}
	return l
}
