package wire

import "sigil/api"

// act is what is done with the records of one wire kind. No record is of WEnd: an end can be taken off, and nothing else.
type act struct {
	right func(r api.Record) bool             // whether it holds just what its kind names (its number, and what is within a group, aside)
	size  func(r api.Record) int              // how many bytes are behind the tag
	put   func(b []byte, r api.Record) []byte // writes them
	take  func(w *walk, number int) api.Errno // reads them
}

// acts makes the table of what is done, by wire kind.
func acts() [6]act {
	return [6]act{
		api.WVarint: {
			right: func(r api.Record) bool { return r.Text == "" && len(r.Inner) == 0 },
			size:  func(r api.Record) int { return sizeVarint(r.Num) },
			put:   func(b []byte, r api.Record) []byte { return putVarint(b, r.Num) },
			take: func(w *walk, number int) api.Errno {
				v, e := w.r.Varint()
				return w.add(api.Record{Number: number, Kind: api.WVarint, Num: v}, e)
			},
		},
		api.WFixed64: {
			right: func(r api.Record) bool { return r.Text == "" && len(r.Inner) == 0 },
			size:  func(r api.Record) int { return 8 },
			put:   func(b []byte, r api.Record) []byte { return putFixed(b, r.Num, 8) },
			take: func(w *walk, number int) api.Errno {
				v, e := w.r.Fixed(8)
				return w.add(api.Record{Number: number, Kind: api.WFixed64, Num: v}, e)
			},
		},
		api.WText: {
			right: func(r api.Record) bool { return r.Num == 0 && len(r.Inner) == 0 },
			size:  func(r api.Record) int { return sizeText(r.Text) },
			put:   func(b []byte, r api.Record) []byte { return putText(b, r.Text) },
			take: func(w *walk, number int) api.Errno {
				s, e := w.r.Text()
				return w.add(api.Record{Number: number, Kind: api.WText, Text: s}, e)
			},
		},
		api.WStart: {
			right: func(r api.Record) bool { return r.Num == 0 && r.Text == "" },
			size:  func(r api.Record) int { return sizeAll(r.Inner) + sizeTag(r.Number) },
			put:   func(b []byte, r api.Record) []byte { return putTag(putAll(b, r.Inner), r.Number, api.WEnd) },
			take:  (*walk).begin,
		},
		api.WEnd: {take: (*walk).end},
		api.WFixed32: {
			right: func(r api.Record) bool { return isWord(r.Num) && r.Text == "" && len(r.Inner) == 0 },
			size:  func(r api.Record) int { return 4 },
			put:   func(b []byte, r api.Record) []byte { return putFixed(b, r.Num, 4) },
			take: func(w *walk, number int) api.Errno {
				v, e := w.r.Fixed(4)
				return w.add(api.Record{Number: number, Kind: api.WFixed32, Num: v}, e)
			},
		},
	}
}
