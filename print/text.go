package print

import (
	"strconv"
	"strings"

	"sigil/api"
	"sigil/scan"
)

// pen writes lines by closures over one builder.
type pen struct {
	line  func(parts ...string)                  // a line, indented by the blocks around it
	block func(word, name string, inside func()) // what stands in braces behind a word and a name
	whole func() string                          // all that is written
}

// newPen makes a pen that has written nothing.
func newPen() pen {
	var b strings.Builder
	deep := 0
	line := func(parts ...string) {
		b.WriteString(strings.Repeat("  ", deep))
		for _, s := range parts {
			b.WriteString(s)
		}
		b.WriteByte('\n')
	}
	block := func(word, name string, inside func()) {
		line(word, " ", name, " {")
		deep++
		inside()
		deep--
		line("}")
	}
	return pen{line, block, b.String}
}

// written is the text of declarations that have one.
func written(f api.File) string {
	p := newPen()
	p.line(`syntax = "proto3";`)
	if f.Package != "" {
		p.line("package ", f.Package, ";")
	}
	for _, s := range f.Imports {
		p.line("import ", scan.Quote(s), ";")
	}
	p.inner(f.Messages, f.Enums)
	return p.whole()
}

// inner writes what is declared in a file or a message behind all else.
func (p pen) inner(messages []api.MessageDecl, enums []api.EnumDecl) {
	for _, m := range messages {
		p.block("message", m.Name, func() { p.members(m) })
	}
	for _, d := range enums {
		p.block("enum", d.Name, func() { p.values(d) })
	}
}

// members writes what stands in a message.
func (p pen) members(m api.MessageDecl) {
	p.reserved(m.Reserved, api.MaxNumber, m.Gone)
	for _, b := range blocks(m.Fields) {
		fields := func() {
			for _, d := range b {
				p.line(typeText(d), " ", d.Name, " = ", strconv.Itoa(d.Number), ";")
			}
		}
		if o := b[0].Oneof; o != 0 {
			p.block("oneof", m.Oneofs[o-1], fields)
		} else {
			fields()
		}
	}
	p.inner(m.Messages, m.Enums)
}

// values writes what stands in an enum.
func (p pen) values(d api.EnumDecl) {
	p.reserved(d.Reserved, most32, d.Gone)
	for _, v := range d.Values {
		p.line(v.Name, " = ", strconv.Itoa(v.Number), ";")
	}
}

// reserved writes the rows and names that are reserved. The greatest number that may be is most.
func (p pen) reserved(rows []api.Range, most int, gone []string) {
	list := func(texts []string) {
		if len(texts) > 0 {
			p.line("reserved ", strings.Join(texts, ", "), ";")
		}
	}
	list(each(rows, func(r api.Range) string { return rowText(r, most) }))
	list(each(gone, scan.Quote))
}

// typeText is what stands ahead of a field's name.
func typeText(d api.FieldDecl) string {
	switch d.Card {
	case api.COptional:
		return "optional " + d.Type
	case api.CRepeated:
		return "repeated " + d.Type
	case api.CMap:
		return "map<" + d.Key + ", " + d.Type + ">"
	}
	return d.Type
}

// rowText is the text of a row.
func rowText(r api.Range, most int) string {
	from := strconv.Itoa(r.From)
	switch r.To {
	case r.From:
		return from
	case most:
		return from + " to max"
	}
	return from + " to " + strconv.Itoa(r.To)
}
