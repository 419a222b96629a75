package parse

import "sigil/api"

// words is what is done where a word stands that begins something there. The word is not read yet.
type words map[string]func()

// statement reads one thing of those that may stand here: a `;` alone, what one of the words begins, or any other.
func (r *reader) statement(w words, other func()) {
	if r.takeSign(";") {
		return
	}
	t := r.here()
	if do := w[t.Text]; do != nil && t.Kind == api.TokIdent {
		do()
		return
	}
	other()
}

// body reads what stands in braces, up to the one that closes them, which is still to be read.
func (r *reader) body(w words, other func()) {
	r.needSign("{")
	for !is(r.here(), api.TokSign, "}") {
		r.statement(w, other)
	}
}

// file reads the whole.
func (r *reader) file() api.File {
	if !r.takeWord("syntax") {
		r.wrong()
	}
	r.needSign("=")
	r.meaning(syntaxFault)
	r.needSign(";")
	var f api.File
	w := r.tops(&f)
	for r.here().Kind != api.TokEnd {
		r.statement(w, r.wrong)
	}
	return f
}

// tops makes the table of the words that may begin a top, and of those that are refused there.
func (r *reader) tops(f *api.File) words {
	return words{
		"package": func() { r.packageName(f) },
		"import":  func() { f.Imports = append(f.Imports, r.imported()) },
		"message": func() { f.Messages = append(f.Messages, r.message()) },
		"enum":    func() { f.Enums = append(f.Enums, r.enum()) },
		"option":  r.refuse,
		"service": r.refuse,
		"extend":  r.refuse,
	}
}

// members makes the table of the words that may begin a member of a message, and of those that are refused there.
func (r *reader) members(m *api.MessageDecl) words {
	return words{
		"message":    func() { m.Messages = append(m.Messages, r.message()) },
		"enum":       func() { m.Enums = append(m.Enums, r.enum()) },
		"oneof":      func() { r.oneof(m) },
		"reserved":   func() { r.reserved(bounds{least: 1, most: api.MaxNumber}, &m.Reserved, &m.Gone) },
		"optional":   func() { m.Fields = append(m.Fields, r.labelled(api.COptional)) },
		"repeated":   func() { m.Fields = append(m.Fields, r.labelled(api.CRepeated)) },
		"map":        func() { m.Fields = append(m.Fields, r.mapOrField()) },
		"option":     r.refuse,
		"extend":     r.refuse,
		"extensions": r.refuse,
		"group":      r.refuse,
		"required":   r.refuse,
	}
}

// choices makes the table of the words that are refused where a field of a oneof may begin.
func (r *reader) choices() words {
	return words{
		"option":   r.refuse,
		"group":    r.refuse,
		"optional": r.refuse,
		"repeated": r.refuse,
		"required": r.refuse,
		"oneof":    r.refuse,
		"message":  r.refuse,
		"enum":     r.refuse,
		"reserved": r.refuse,
	}
}

// values makes the table of the words that, where a value of an enum may begin, begin something else or are refused.
func (r *reader) values(d *api.EnumDecl) words {
	return words{
		"reserved": func() { r.reserved(bounds{least32, most32, true}, &d.Reserved, &d.Gone) },
		"option":   r.refuse,
	}
}

// packageName reads the one package that there may be.
func (r *reader) packageName(f *api.File) {
	if f.Package != "" {
		r.wrong()
	}
	r.next()
	f.Package = r.dotted(false)
	r.needSign(";")
}

// imported reads an import, and tells what it names.
func (r *reader) imported() string {
	r.begin()
	r.next()
	if t := r.here(); is(t, api.TokIdent, "public") || is(t, api.TokIdent, "weak") {
		r.refuse()
	}
	s := r.meaning(importFault)
	r.needSign(";")
	return s
}

// message reads a message with all that is declared in it.
func (r *reader) message() api.MessageDecl {
	r.begin()
	if r.open == api.MaxDecl {
		r.fail(api.ErrNest)
	}
	r.next()
	m := api.MessageDecl{Name: r.name()}
	r.open++
	r.body(r.members(&m), func() { m.Fields = append(m.Fields, r.plain(0)) })
	r.next()
	r.open--
	return m
}

// plain reads a field without a word ahead, in a oneof or (0) in none.
func (r *reader) plain(oneof int) api.FieldDecl {
	r.begin()
	return r.field(api.FieldDecl{Card: api.CSingle, Oneof: oneof})
}

// labelled reads a field with `optional` or `repeated` ahead.
func (r *reader) labelled(card int) api.FieldDecl {
	r.begin()
	r.next()
	if is(r.here(), api.TokIdent, "group") {
		r.refuse()
	}
	return r.field(api.FieldDecl{Card: card})
}

// mapOrField reads what begins with `map`: only a `<` behind it tells a map from a field of a type of that name.
func (r *reader) mapOrField() api.FieldDecl {
	if !is(r.ahead(1), api.TokSign, "<") {
		return r.plain(0)
	}
	r.begin()
	r.next()
	r.needSign("<")
	d := api.FieldDecl{Card: api.CMap, Key: r.dotted(true)}
	r.needSign(",")
	d.Type = r.dotted(true)
	r.needSign(">")
	return r.nameAndNumber(d)
}

// field reads a field from its type on, into what is known of it.
func (r *reader) field(d api.FieldDecl) api.FieldDecl {
	d.Type = r.dotted(true)
	return r.nameAndNumber(d)
}

// nameAndNumber reads a field from its name on, into what is known of it.
func (r *reader) nameAndNumber(d api.FieldDecl) api.FieldDecl {
	d.Name = r.name()
	d.Number = r.assigned(bounds{least: 0, most: most32})
	return d
}

// assigned reads the number of a field or value, from the `=` up to the `;`.
func (r *reader) assigned(b bounds) int {
	r.needSign("=")
	n := r.number(b)
	if is(r.here(), api.TokSign, "[") {
		r.refuse()
	}
	r.needSign(";")
	return n
}

// oneof reads a oneof: its fields are among those of its message.
func (r *reader) oneof(m *api.MessageDecl) {
	r.begin()
	r.next()
	m.Oneofs = append(m.Oneofs, r.name())
	ahead := len(m.Fields)
	r.body(r.choices(), func() { m.Fields = append(m.Fields, r.plain(len(m.Oneofs))) })
	if len(m.Fields) == ahead {
		r.wrong()
	}
	r.next()
}

// enum reads an enum.
func (r *reader) enum() api.EnumDecl {
	r.begin()
	r.next()
	d := api.EnumDecl{Name: r.name()}
	r.body(r.values(&d), func() { d.Values = append(d.Values, r.value()) })
	if len(d.Values) == 0 {
		r.wrong()
	}
	r.next()
	return d
}

// value reads a value of an enum.
func (r *reader) value() api.EnumValue {
	r.begin()
	name := r.name()
	return api.EnumValue{Name: name, Number: r.assigned(bounds{least32, most32, true})}
}

// reserved reads rows of numbers within bounds, or names.
func (r *reader) reserved(b bounds, rows *[]api.Range, gone *[]string) {
	r.next()
	one := func() { *rows = append(*rows, r.row(b)) }
	if r.here().Kind == api.TokString {
		one = func() { *gone = append(*gone, r.goneName()) }
	}
	one()
	for r.takeSign(",") {
		one()
	}
	r.needSign(";")
}

// row reads a row of numbers, or one number alone.
func (r *reader) row(b bounds) api.Range {
	r.begin()
	from := r.number(b)
	if !r.takeWord("to") {
		return api.Range{From: from, To: from}
	}
	if r.takeWord("max") {
		return api.Range{From: from, To: b.most}
	}
	b.least = from
	return api.Range{From: from, To: r.number(b)}
}

// goneName reads a string that is a reserved name.
func (r *reader) goneName() string {
	r.begin()
	return r.meaning(nameFault)
}
