package print_test

import (
	"fmt"
	"math/rand"
	"reflect"
	"regexp"
	"slices"
	"strings"

	"sigil/api"
	"sigil/scan"
)

// A second reading of the chapter: what is wrong with declarations, each reason by itself; their text; their order, one put in after the other.

// wrongs gathers the reasons why declarations have no text.
type wrongs struct {
	reasons []string
	decls   int
}

var (
	wordForm  = regexp.MustCompile(`^[A-Za-z_][A-Za-z_0-9]*$`)
	namesForm = regexp.MustCompile(`^[A-Za-z_][A-Za-z_0-9]*(\.[A-Za-z_][A-Za-z_0-9]*)*$`)
	typeForm  = regexp.MustCompile(`^\.?[A-Za-z_][A-Za-z_0-9]*(\.[A-Za-z_][A-Za-z_0-9]*)*$`)
)

func (w *wrongs) need(ok bool, reason string) {
	if !ok {
		w.reasons = append(w.reasons, reason)
	}
}

func (w *wrongs) form(s string, form *regexp.Regexp, reason string) {
	w.need(len(s) <= 255 && form.MatchString(s), reason)
}

func (w *wrongs) names(l []string, reason string) {
	for _, s := range l {
		w.decls++
		w.form(s, wordForm, reason)
	}
}

func (w *wrongs) rows(l []api.Range, least, most int) {
	for _, r := range l {
		w.decls++
		w.need(r.From >= least, "a row's From")
		w.need(r.To <= most, "a row's To")
		w.need(r.From <= r.To, "a row that falls")
	}
}

func (w *wrongs) file(f api.File) {
	w.need(f.Package == "" || len(f.Package) <= 255 && namesForm.MatchString(f.Package), "the package")
	for _, s := range f.Imports {
		w.decls++
		w.need(len(s) >= 1 && len(s) <= 255, "an import")
	}
	w.inner(f.Messages, f.Enums, 1)
	w.need(w.decls <= 4096, "too many")
}

func (w *wrongs) inner(messages []api.MessageDecl, enums []api.EnumDecl, deep int) {
	for _, m := range messages {
		w.decls++
		w.need(deep <= 32, "too deep")
		w.message(m)
		w.inner(m.Messages, m.Enums, deep+1)
	}
	for _, d := range enums {
		w.decls++
		w.form(d.Name, wordForm, "an enum's name")
		w.need(len(d.Values) > 0, "an enum without values")
		for _, v := range d.Values {
			w.decls++
			w.form(v.Name, wordForm, "a value's name")
			w.need(v.Name != "option" && v.Name != "reserved", "a value's refused name")
			w.need(v.Number >= -2147483648 && v.Number <= 2147483647, "a value's number")
		}
		w.rows(d.Reserved, -2147483648, 2147483647)
		w.names(d.Gone, "a gone name")
	}
}

func (w *wrongs) message(m api.MessageDecl) {
	w.form(m.Name, wordForm, "a message's name")
	w.names(m.Oneofs, "a oneof's name")
	w.rows(m.Reserved, 1, 536870911)
	w.names(m.Gone, "a gone name")
	places := map[int][]int{}
	for i, d := range m.Fields {
		w.decls++
		w.field(d)
		w.need(d.Oneof >= 0 && d.Oneof <= len(m.Oneofs), "no such oneof")
		places[d.Oneof] = append(places[d.Oneof], i)
	}
	last := -1
	for o := 1; o <= len(m.Oneofs); o++ {
		p := places[o]
		w.need(len(p) > 0, "a oneof without a field")
		if len(p) > 0 {
			w.need(p[len(p)-1]-p[0] == len(p)-1, "a oneof's fields stand apart")
			w.need(p[0] > last, "oneofs in another order")
			last = p[0]
		}
	}
}

func (w *wrongs) field(d api.FieldDecl) {
	w.form(d.Name, wordForm, "a field's name")
	w.need(d.Number >= 0 && d.Number <= 2147483647, "a field's number")
	w.form(d.Type, typeForm, "a field's type")
	w.need(d.Card >= 1 && d.Card <= 4, "a card")
	if d.Card == 4 {
		w.form(d.Key, typeForm, "a key")
	} else {
		w.need(d.Key == "", "a key of no map")
	}
	w.need(d.Oneof == 0 || d.Card == 1, "a card in a oneof")
	no := ""
	switch {
	case d.Card == 1 && d.Oneof == 0:
		no = "message enum oneof reserved optional repeated option extend extensions group required"
	case d.Card == 1:
		no = "option group optional repeated required oneof message enum reserved"
	case d.Card == 2 || d.Card == 3:
		no = "group"
	}
	for _, word := range strings.Fields(no) {
		w.need(d.Type != word && !strings.HasPrefix(d.Type, word+"."), "a type's refused name")
	}
}

// modelWrongs are the reasons why declarations have no text.
func modelWrongs(f api.File) []string {
	w := &wrongs{}
	w.file(f)
	return w.reasons
}

var tokenForm = regexp.MustCompile(`"(\\.|[^"\\])*"|'(\\.|[^'\\])*'|[A-Za-z_0-9]+|[^ \n]`)

// modelTokens counts the tokens of a text that was written, with the end.
func modelTokens(text string) int { return len(tokenForm.FindAllString(text, -1)) + 1 }

// modelRight is what Right must tell.
func modelRight(f api.File) api.Errno {
	if len(modelWrongs(f)) > 0 {
		return api.ErrDecl
	}
	if text := modelText(f); len(text) > 65536 || modelTokens(text) > 16384 {
		return api.ErrLong
	}
	return api.OK
}

// modelText is the text of declarations that have one.
func modelText(f api.File) string {
	s := "syntax = \"proto3\";\n"
	if f.Package != "" {
		s += "package " + f.Package + ";\n"
	}
	var imports strings.Builder
	for _, i := range f.Imports {
		fmt.Fprintf(&imports, "import %s;\n", scan.Quote(i))
	}
	return s + imports.String() + modelInner(f.Messages, f.Enums, "")
}

func modelInner(messages []api.MessageDecl, enums []api.EnumDecl, blanks string) string {
	var b strings.Builder
	for _, m := range messages {
		fmt.Fprintf(&b, "%smessage %s {\n%s", blanks, m.Name, modelReserved(m.Reserved, 536870911, m.Gone, blanks+"  "))
		for i, d := range m.Fields {
			begins := d.Oneof > 0 && (i == 0 || m.Fields[i-1].Oneof != d.Oneof)
			ends := d.Oneof > 0 && (i == len(m.Fields)-1 || m.Fields[i+1].Oneof != d.Oneof)
			if begins {
				fmt.Fprintf(&b, "%s  oneof %s {\n", blanks, m.Oneofs[d.Oneof-1])
			}
			if d.Oneof > 0 {
				b.WriteString("  ")
			}
			fmt.Fprintf(&b, "%s  %s %s = %d;\n", blanks, []string{d.Type, "optional " + d.Type, "repeated " + d.Type, "map<" + d.Key + ", " + d.Type + ">"}[d.Card-1], d.Name, d.Number)
			if ends {
				fmt.Fprintf(&b, "%s  }\n", blanks)
			}
		}
		fmt.Fprintf(&b, "%s%s}\n", modelInner(m.Messages, m.Enums, blanks+"  "), blanks)
	}
	for _, d := range enums {
		fmt.Fprintf(&b, "%senum %s {\n%s", blanks, d.Name, modelReserved(d.Reserved, 2147483647, d.Gone, blanks+"  "))
		for _, v := range d.Values {
			fmt.Fprintf(&b, "%s  %s = %d;\n", blanks, v.Name, v.Number)
		}
		fmt.Fprintf(&b, "%s}\n", blanks)
	}
	return b.String()
}

func modelReserved(rows []api.Range, most int, gone []string, blanks string) string {
	var l []string
	for _, r := range rows {
		switch {
		case r.From == r.To:
			l = append(l, fmt.Sprint(r.From))
		case r.To == most:
			l = append(l, fmt.Sprint(r.From, " to max"))
		default:
			l = append(l, fmt.Sprintf("%d to %d", r.From, r.To))
		}
	}
	s := ""
	if len(l) > 0 {
		s += blanks + "reserved " + strings.Join(l, ", ") + ";\n"
	}
	if len(gone) > 0 { // they are words, which need no escape
		s += blanks + "reserved \"" + strings.Join(gone, "\", \"") + "\";\n"
	}
	return s
}

// inTurn takes one after the other, and puts each ahead of those at the end that it must stand ahead of.
func inTurn[T any](l []T, ahead func(a, b T) bool) []T {
	var out []T
	for _, v := range l {
		at := len(out)
		for at > 0 && ahead(v, out[at-1]) {
			at--
		}
		out = slices.Insert(out, at, v)
	}
	return out
}

// modelSorted is what Sorted must tell of right declarations.
func modelSorted(f api.File) api.File {
	return api.File{
		Package:  f.Package,
		Imports:  inTurn(f.Imports, func(a, b string) bool { return a < b }),
		Messages: modelMessages(f.Messages),
		Enums:    modelEnums(f.Enums),
	}
}

func modelMessages(l []api.MessageDecl) []api.MessageDecl {
	var out []api.MessageDecl
	for _, m := range inTurn(l, func(a, b api.MessageDecl) bool { return a.Name < b.Name }) {
		m.Fields, m.Oneofs = modelFields(m)
		m.Messages, m.Enums = modelMessages(m.Messages), modelEnums(m.Enums)
		m.Reserved = modelRows(m.Reserved)
		m.Gone = inTurn(m.Gone, func(a, b string) bool { return a < b })
		out = append(out, m)
	}
	return out
}

func modelEnums(l []api.EnumDecl) []api.EnumDecl {
	var out []api.EnumDecl
	for _, d := range inTurn(l, func(a, b api.EnumDecl) bool { return a.Name < b.Name }) {
		d.Values = inTurn(d.Values, func(a, b api.EnumValue) bool {
			return a.Number != b.Number && (a.Number == 0 || b.Number != 0 && a.Number < b.Number)
		})
		d.Reserved = modelRows(d.Reserved)
		d.Gone = inTurn(d.Gone, func(a, b string) bool { return a < b })
		out = append(out, d)
	}
	return out
}

// modelFields puts the fields in turn by the number of the block that each is in, then by the block's first place, then by its own number.
func modelFields(m api.MessageDecl) ([]api.FieldDecl, []string) {
	type placed struct {
		block, place int
		api.FieldDecl
	}
	var l []placed
	for i, d := range m.Fields {
		p := placed{d.Number, i, d}
		for j, e := range m.Fields {
			if d.Oneof > 0 && d.Oneof == e.Oneof {
				p.block, p.place = min(p.block, e.Number), min(p.place, j)
			}
		}
		l = append(l, p)
	}
	l = inTurn(l, func(a, b placed) bool {
		return slices.Compare([]int{a.block, a.place, a.Number}, []int{b.block, b.place, b.Number}) < 0
	})
	var fields []api.FieldDecl
	var names []string
	last := 0
	for _, p := range l {
		if p.Oneof > 0 && p.Oneof != last {
			names = append(names, m.Oneofs[p.Oneof-1])
		}
		last = p.Oneof
		if p.Oneof > 0 {
			p.FieldDecl.Oneof = len(names)
		}
		fields = append(fields, p.FieldDecl)
	}
	return fields, names
}

func modelRows(l []api.Range) []api.Range {
	l = inTurn(l, func(a, b api.Range) bool { return a.From < b.From || a.From == b.From && a.To < b.To })
	for i := 1; i < len(l); {
		if l[i].From == l[i-1].To+1 {
			l[i-1].To = l[i].To
			l = append(l[:i], l[i+1:]...)
		} else {
			i++
		}
	}
	return l
}

// same says whether two declare the same, a nil list being an empty one.
func same(f, g api.File) bool {
	return reflect.DeepEqual(full(f), full(g))
}

// full puts a list that is not nil for each that is, in a copy.
func full(f api.File) api.File {
	v := reflect.New(reflect.TypeOf(f)).Elem()
	fill(v, reflect.ValueOf(f))
	return v.Interface().(api.File)
}

func fill(to, from reflect.Value) {
	switch from.Kind() {
	case reflect.Struct:
		for i := range from.NumField() {
			fill(to.Field(i), from.Field(i))
		}
	case reflect.Slice:
		to.Set(reflect.MakeSlice(from.Type(), from.Len(), from.Len()))
		for i := range from.Len() {
			fill(to.Index(i), from.Index(i))
		}
	default:
		to.Set(from)
	}
}

// copied is a copy of declarations that shares no list with them.
func copied(f api.File) api.File { return full(f) }

// special are words that mean something somewhere.
const special = "syntax package import message enum oneof reserved optional repeated map option service extend extensions group required public weak to max proto3 string int32"

// maker makes right declarations by chance.
type maker struct {
	r     *rand.Rand
	once  bool // no two of a list are alike
	count int
}

func newMaker(seed int64) *maker {
	return &maker{r: rand.New(rand.NewSource(seed)), once: seed%2 == 0}
}

func (k *maker) some(n int) int { return k.r.Intn(n + 1) }

func (k *maker) one(l ...string) string { return l[k.r.Intn(len(l))] }

// word makes a name; one that was not there before, if need be.
func (k *maker) word() string {
	k.count++
	if k.once {
		return fmt.Sprintf("%s%d", k.one("a", "B", "_", "zz", "M"), k.count*7919%10007)
	}
	return k.one(append(strings.Fields(special), "a", "a", "b", "B", "_", "_9", "M1", "ab", "Message")...)
}

// number makes a number between two; one that was not there before, if need be.
func (k *maker) number(least, most int) int {
	k.count++
	if k.once {
		n := k.count * 7919 % 10007
		if least < 0 && k.some(1) == 0 {
			n = -n
		}
		return n
	}
	n := []int{least, most, 0, 1, 2, 3, 4, 5, 6, 7, 8, 9, 10, most - 1, least + 1, -1, -2, -3, k.r.Int() % 100000}[k.r.Intn(19)]
	return min(max(n, least), most)
}

func (k *maker) names() string {
	l := []string{k.word()}
	for k.some(2) == 0 {
		l = append(l, k.word())
	}
	return strings.Join(l, ".")
}

func (k *maker) typed() string { return k.one("", "", ".") + k.names() }

func (k *maker) file() api.File {
	var f api.File
	if k.some(2) > 0 {
		f.Package = k.names()
	}
	for range k.some(3) {
		f.Imports = append(f.Imports, k.one("x", "", "\xff\x00", "é\n", "\"\\")+k.word())
	}
	for range k.some(3) {
		f.Messages = append(f.Messages, k.message(1))
	}
	for range k.some(2) {
		f.Enums = append(f.Enums, k.enum())
	}
	return f
}

func (k *maker) message(deep int) api.MessageDecl {
	m := api.MessageDecl{Name: k.word()}
	for range k.some(5) {
		d := k.field()
		m.Fields = append(m.Fields, d)
		if d.Oneof == 0 {
			continue
		}
		m.Oneofs = append(m.Oneofs, k.word())
		m.Fields[len(m.Fields)-1].Oneof = len(m.Oneofs)
		for range k.some(3) {
			m.Fields = append(m.Fields, k.free(api.FieldDecl{Card: 1, Name: k.word(), Number: k.number(0, 2147483647), Oneof: len(m.Oneofs)}))
		}
	}
	m.Reserved, m.Gone = k.rows(1, 536870911), k.gone()
	for deep < 5 && k.some(2) == 0 {
		m.Messages = append(m.Messages, k.message(deep+1))
	}
	for k.some(3) == 0 {
		m.Enums = append(m.Enums, k.enum())
	}
	return m
}

// field makes a field; of a oneof, if Oneof is not 0.
func (k *maker) field() api.FieldDecl {
	d := api.FieldDecl{Card: 1 + k.some(3), Name: k.word(), Number: k.number(0, 2147483647)}
	if d.Card == 1 {
		d.Oneof = k.some(1)
	}
	if d.Card == 4 {
		d.Key = k.typed()
	}
	return k.free(d)
}

// free gives a field a type that is not refused there.
func (k *maker) free(d api.FieldDecl) api.FieldDecl {
	for {
		d.Type = k.typed()
		w := &wrongs{}
		w.field(d)
		if len(w.reasons) == 0 {
			return d
		}
	}
}

func (k *maker) enum() api.EnumDecl {
	d := api.EnumDecl{Name: k.word(), Reserved: k.rows(-2147483648, 2147483647), Gone: k.gone()}
	for range 1 + k.some(4) {
		v := api.EnumValue{Name: k.word(), Number: k.number(-2147483648, 2147483647)}
		if v.Name == "option" || v.Name == "reserved" {
			v.Name = "Z"
		}
		d.Values = append(d.Values, v)
	}
	return d
}

// rows makes rows of numbers; such as have none in common, if need be.
func (k *maker) rows(least, most int) []api.Range {
	var l []api.Range
	at := max(least, -50)
	for range k.some(5) {
		from, to := k.number(least, most), k.number(least, most)
		if k.once {
			from = at + k.some(2)
			to = from + k.some(2)
			at = to + 1
		} else if k.some(1) == 0 {
			to = from
		}
		l = append(l, api.Range{From: min(from, to), To: max(from, to)})
	}
	k.r.Shuffle(len(l), func(i, j int) { l[i], l[j] = l[j], l[i] })
	return l
}

func (k *maker) gone() []string {
	var l []string
	for range k.some(3) {
		l = append(l, k.word())
	}
	return l
}

// shuffled puts the lists of declarations into another order, by chance, so that they are right.
func (k *maker) shuffled(f api.File) api.File {
	f = copied(f)
	mix(k, f.Imports)
	k.mixInner(f.Messages, f.Enums)
	return f
}

func mix[T any](k *maker, l []T) { k.r.Shuffle(len(l), func(i, j int) { l[i], l[j] = l[j], l[i] }) }

func (k *maker) mixInner(messages []api.MessageDecl, enums []api.EnumDecl) {
	mix(k, messages)
	mix(k, enums)
	for i := range messages {
		m := &messages[i]
		mix(k, m.Reserved)
		mix(k, m.Gone)
		k.mixFields(m)
		k.mixInner(m.Messages, m.Enums)
	}
	for _, d := range enums {
		mix(k, d.Values)
		mix(k, d.Reserved)
		mix(k, d.Gone)
	}
}

func (k *maker) mixFields(m *api.MessageDecl) {
	var l [][]api.FieldDecl
	for i, d := range m.Fields {
		if i > 0 && d.Oneof > 0 && d.Oneof == m.Fields[i-1].Oneof {
			l[len(l)-1] = append(l[len(l)-1], d)
		} else {
			l = append(l, []api.FieldDecl{d})
		}
	}
	mix(k, l)
	old := m.Oneofs
	m.Fields, m.Oneofs = nil, nil
	for _, b := range l {
		mix(k, b)
		if o := b[0].Oneof; o > 0 {
			m.Oneofs = append(m.Oneofs, old[o-1])
			for i := range b {
				b[i].Oneof = len(m.Oneofs)
			}
		}
		m.Fields = append(m.Fields, b...)
	}
}
