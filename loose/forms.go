package loose

import (
	"sigil/api"
	"sigil/wire"
)

// act reads what is behind a tag, and lays it upon what the field holds.
type act func(p *part, h *held)

// form is how the values of a type are read: the wire kind, and what is done with a record of it.
type form struct {
	kind int
	lay  act
}

// table makes the table of the forms, by type.
func (c *call) table() [api.TMessage + 1]form {
	return [...]form{
		api.TDouble:   fixed(api.WFixed64, 8, whole),
		api.TFloat:    fixed(api.WFixed32, 4, whole),
		api.TInt32:    varint(signed),
		api.TInt64:    varint(whole),
		api.TUint32:   varint(low),
		api.TUint64:   varint(whole),
		api.TSint32:   varint(func(bits int) int { return wire.Zag(low(bits)) }),
		api.TSint64:   varint(wire.Zag),
		api.TFixed32:  fixed(api.WFixed32, 4, whole),
		api.TFixed64:  fixed(api.WFixed64, 8, whole),
		api.TSfixed32: fixed(api.WFixed32, 4, signed),
		api.TSfixed64: fixed(api.WFixed64, 8, whole),
		api.TBool:     varint(truth),
		api.TString:   text((*part).utf8),
		api.TBytes:    text((*part).ownText),
		api.TEnum:     varint(signed),
		api.TMessage:  {api.WText, c.message},
	}
}

// varint is the form of numbers that stand as varints; meant tells the number.
func varint(meant func(bits int) int) form {
	return form{api.WVarint, func(p *part, h *held) {
		h.value = api.Value{Kind: api.VNum, Num: meant(p.varint())}
	}}
}

// fixed is the form of numbers of so many bytes.
func fixed(kind, size int, meant func(bits int) int) form {
	return form{kind, func(p *part, h *held) {
		h.value = api.Value{Kind: api.VNum, Num: meant(p.fixed(size))}
	}}
}

// text is the form of texts.
func text(read func(p *part) string) form {
	return form{api.WText, func(p *part, h *held) {
		h.value = api.Value{Kind: api.VText, Text: read(p)}
	}}
}

// message lays a message upon the one that is held.
func (c *call) message(p *part, h *held) {
	if h.inner == nil {
		h.inner = draft{}
	}
	fields, _ := c.plan(h.field.of)
	c.records(p.span(p.level+1), fields, h.inner)
}

// whole is the number of all bits.
func whole(bits int) int { return bits }

// low is the number of the low 32 bits.
func low(bits int) int { return int(uint32(bits)) }

// signed is the number of these with a sign.
func signed(bits int) int { return int(int32(bits)) }

// truth is 1 but where no bit is set.
func truth(bits int) int {
	if bits == 0 {
		return 0
	}
	return 1
}
