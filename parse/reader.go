package parse

import (
	"slices"
	"strings"

	"sigil/api"
	"sigil/scan"
)

// reader goes over tokens from the left. The first fault that it meets it throws, as an api.Fault.
type reader struct {
	left  []api.Token // from the token here on, without the end
	end   api.Token
	begun bool // the token here is the first one of a declaration
	decls int  // declarations whose first token is read
	open  int  // messages around the token here
}

// read reads a file, and catches what its reader throws.
func read(l []api.Token) (f api.File, bad api.Fault) {
	defer func() {
		if thrown := recover(); thrown != nil {
			f, bad = api.File{}, thrown.(api.Fault)
		}
	}()
	return newReader(l).file(), api.Fault{}
}

// newReader makes a reader of the tokens up to the first end, or to one that is thought behind them.
func newReader(l []api.Token) *reader {
	n := slices.IndexFunc(l, func(t api.Token) bool { return t.Kind == api.TokEnd })
	if n >= 0 {
		return &reader{left: l[:n], end: l[n]}
	}
	end := api.Token{Kind: api.TokEnd}
	if len(l) > 0 {
		last := l[len(l)-1]
		end.At = last.At + len(last.Text)
	}
	return &reader{left: l, end: end}
}

// fail throws a fault of the token here.
func (r *reader) fail(e api.Errno) { panic(api.Fault{Err: e, At: r.here().At}) }

// wrong throws that the token here may not stand here.
func (r *reader) wrong() {
	if r.here().Kind == api.TokEnd {
		r.fail(api.ErrEnd)
	}
	r.fail(api.ErrSyntax)
}

// refuse throws that the word here, or the sign, is refused.
func (r *reader) refuse() { r.fail(api.ErrWord) }

// here is the token that comes next.
func (r *reader) here() api.Token { return r.ahead(0) }

// ahead is the token n behind the one here.
func (r *reader) ahead(n int) api.Token {
	if n < len(r.left) {
		return r.left[n]
	}
	return r.end
}

// begin says that the token here is the first one of a declaration.
func (r *reader) begin() { r.begun = true }

// next goes on behind the token here, which is not the end. A token's other faults are told by then, so whether there is room for the declaration that it begins is looked at last, as it must be.
func (r *reader) next() {
	if r.begun {
		if r.decls == api.MaxDecls {
			r.fail(api.ErrDecls)
		}
		r.decls++
		r.begun = false
	}
	r.left = r.left[1:]
}

// is says whether a token is of that kind and text.
func is(t api.Token, kind int, text string) bool { return t.Kind == kind && t.Text == text }

// takeSign goes on behind the sign, if it is here.
func (r *reader) takeSign(text string) bool { return r.take(api.TokSign, text) }

// takeWord goes on behind the word, if it is here.
func (r *reader) takeWord(text string) bool { return r.take(api.TokIdent, text) }

func (r *reader) take(kind int, text string) bool {
	if !is(r.here(), kind, text) {
		return false
	}
	r.next()
	return true
}

// needSign goes on behind the sign, which must be here.
func (r *reader) needSign(text string) {
	if !r.takeSign(text) {
		r.wrong()
	}
}

// need is the text of the token here, which must be of that kind.
func (r *reader) need(kind int) string {
	t := r.here()
	if t.Kind != kind {
		r.wrong()
	}
	return t.Text
}

// check throws e, if it is an error, as a fault of the token here.
func (r *reader) check(e api.Errno) {
	if e != api.OK {
		r.fail(e)
	}
}

// name reads a name. It is a copy, so that no declaration holds on to a token.
func (r *reader) name() string {
	s := r.need(api.TokIdent)
	r.check(nameFault(s))
	r.next()
	return strings.Clone(s)
}

// dotted reads names with dots between; with a dot ahead too, where one may stand.
func (r *reader) dotted(dotAhead bool) string {
	first := r.here()
	var b strings.Builder
	if dotAhead && r.takeSign(".") {
		b.WriteByte('.')
	}
	b.WriteString(r.name())
	for r.takeSign(".") {
		b.WriteByte('.')
		b.WriteString(r.name())
	}
	if b.Len() > api.MaxName {
		panic(api.Fault{Err: api.ErrLong, At: first.At})
	}
	return b.String()
}

// meaning reads a string whose meaning fault finds right.
func (r *reader) meaning(fault func(s string) api.Errno) string {
	s, e := scan.Unquote(r.need(api.TokString))
	r.check(e)
	r.check(fault(s))
	r.next()
	return s
}

// nameFault tells what is wrong with a name.
func nameFault(s string) api.Errno {
	switch {
	case len(s) > api.MaxName:
		return api.ErrLong
	case !Word(s):
		return api.ErrSyntax
	}
	return api.OK
}

// importFault tells what is wrong with the meaning of an import's string.
func importFault(s string) api.Errno {
	switch {
	case len(s) > api.MaxName:
		return api.ErrLong
	case s == "":
		return api.ErrSyntax
	}
	return api.OK
}

// syntaxFault tells what is wrong with the meaning of the string of `syntax`.
func syntaxFault(s string) api.Errno {
	if s != "proto3" {
		return api.ErrSyntax
	}
	return api.OK
}

// The numbers that have 32 bits.
const (
	least32 = -1 << 31
	most32  = 1<<31 - 1
)

// bounds are the numbers that may stand at a place.
type bounds struct {
	least, most int
	minus       bool // a `-` may stand ahead
}

// number reads a number within bounds, with its `-` if it has one.
func (r *reader) number(b bounds) int {
	minus := b.minus && r.takeSign("-")
	n, e := scan.Number(r.need(api.TokNumber))
	r.check(e)
	if minus {
		n = -n
	}
	if n < b.least || n > b.most {
		r.fail(api.ErrRange)
	}
	r.next()
	return n
}
