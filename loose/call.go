package loose

import (
	"slices"

	"sigil/api"
	"sigil/bind"
)

// call is what one call has: what it has met of the schema, and what it passed over.
type call struct {
	schema *bind.Schema
	forms  [api.TMessage + 1]form
	plans  map[string]plan // by the full names of the message types that were met
	trail  []int           // the numbers of the fields in whose records it reads, from the outside
	told   bool            // whether what is passed over is asked for
	skips  []api.Skip
}

func newCall(s *bind.Schema) *call {
	c := &call{schema: s, plans: map[string]plan{}}
	c.forms = c.table()
	return c
}

// all reads bytes as a message, and catches the fault that is thrown where they are none.
func (c *call) all(name string, b []byte) (v api.Value, at int, e api.Errno) {
	fields, e := c.plan(name)
	if e != api.OK {
		return api.Value{}, 0, e
	}
	if len(b) > api.MaxMessage {
		return api.Value{}, 0, api.ErrLong
	}
	defer func() {
		if thrown := recover(); thrown != nil {
			bad := thrown.(fault)
			at, e = bad.at, bad.err
		}
	}()
	top := draft{}
	c.records(newPart(b, 0, 1), fields, top)
	return top.tree(), 0, api.OK
}

// records reads the records of a part, and lays each upon what its field holds.
func (c *call) records(p *part, fields plan, d draft) {
	for p.More() {
		at := p.place()
		number, kind := p.tag()
		f, ok := fields[number]
		if !ok || f.act(kind) == nil {
			p.pass(at, number, kind)
			c.note(at, number, kind)
			continue
		}
		if f.deep {
			p.deepen(at)
		}
		c.trail = append(c.trail, number)
		f.act(kind)(p, d.at(f))
		c.trail = c.trail[:len(c.trail)-1]
	}
}

// note notes a record that was passed over.
func (c *call) note(at, number, kind int) {
	if c.told {
		c.skips = append(c.skips, api.Skip{At: at, Number: number, Kind: kind, Trail: slices.Clone(c.trail)})
	}
}
