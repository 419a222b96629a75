package view

import "sigil/api"

// seats is what was met in a message or a pair: by the fields' seats the records that count. The members of a oneof have one seat in common.
type seats map[int]seat

// seat is a field and its records, in their order.
type seat struct {
	field   api.Field
	records []record
}

// seatOf tells a field's seat: its number; that of a oneof is no number.
func seatOf(f api.Field) int {
	if f.Oneof > 0 {
		return -f.Oneof
	}
	return f.Number
}

// take takes a record of a field. One that takes the seat of another member takes that one's records away.
func (in seats) take(f api.Field, r record) {
	s := in[seatOf(f)]
	if s.field.Number != f.Number {
		s = seat{field: f}
	}
	s.records = append(s.records, r)
	in[seatOf(f)] = s
}

// of tells the records of a field that count.
func (in seats) of(f api.Field) []record {
	s := in[seatOf(f)]
	if s.field.Number != f.Number {
		return nil
	}
	return s.records
}
