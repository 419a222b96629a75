package registry

import (
	"bytes"
	"errors"

	"sigil/api"
	"sigil/digest"
)

// The reasons why a record is not right.
var (
	errCut    = errors.New("cut off by the end")
	errNumber = errors.New("another number")
	errSum    = errors.New("a wrong sum")
	errFrame  = errors.New("no frame of an act")
	errOther  = errors.New("an act that would not write just these bytes")
)

// replay does the acts of a log's records, up to the first that is not right. The log begins with the one that the registry has.
func (r *Registry) replay(log []byte) {
	for len(r.log) < len(log) {
		before := *r
		why := r.redo(log[len(r.log):])
		switch {
		case errors.Is(why, errOther):
			// Perhaps it was done, but it is another act than the record's.
			*r = before
			return
		case why != nil:
			// Nothing was done.
			return
		}
	}
}

// redo does the act of the record that stands in front of bytes, or tells why it is not right.
func (r *Registry) redo(b []byte) error {
	size, err := measured(b, r.records)
	if err != nil {
		return err
	}
	b = b[:size]
	parts, e := digest.Parts(contentOf(b))
	if e != api.OK || len(parts) < 3 || len(parts[0]) != 1 {
		return errFrame
	}
	from := len(r.log)
	if err := again(parts[0][0])(r, string(parts[1]), parts[2:]); err != nil {
		return err
	}
	if !bytes.Equal(r.log[from:], b) {
		return errOther
	}
	return nil
}

// measured tells how many bytes the record has that stands in front, if it is whole and has that number and the right sums.
func measured(b []byte, number int) (int, error) {
	if len(b) < aheadLen {
		return 0, errCut
	}
	if digest.Crc(b[:2*fourLen]) != numberOf(b[2*fourLen:]) {
		return 0, errSum
	}
	if numberOf(b) != number {
		return 0, errNumber
	}
	size := aheadLen + numberOf(b[fourLen:]) + fourLen
	if size > len(b) {
		return 0, errCut
	}
	if digest.Crc(contentOf(b[:size])) != numberOf(b[size-fourLen:]) {
		return 0, errSum
	}
	return size, nil
}

// contentOf is the content of a whole record.
func contentOf(record []byte) []byte { return record[aheadLen : len(record)-fourLen] }

// again tells how the act of a byte is done for a subject by the parts that stand behind that, of which there is one at least. Whatever the call answers is seen by what it writes.
func again(act byte) func(r *Registry, subject string, parts [][]byte) error {
	switch act {
	case actRegister:
		return (*Registry).registerAgain
	case actRule:
		return (*Registry).ruleAgain
	case actDrop:
		return (*Registry).dropAgain
	}
	return func(*Registry, string, [][]byte) error { return errFrame }
}

func (r *Registry) registerAgain(subject string, parts [][]byte) error {
	typ, texts := string(parts[0]), parts[1:]
	if len(texts)%2 != 0 {
		return errFrame
	}
	var files []api.Source
	for i := 0; i < len(texts); i += 2 {
		files = append(files, api.Source{Name: string(texts[i]), Text: string(texts[i+1])})
	}
	r.Register(subject, files, typ)
	return nil
}

func (r *Registry) ruleAgain(subject string, parts [][]byte) error {
	if len(parts) != 1 || len(parts[0]) != 1 {
		return errFrame
	}
	r.Rule(subject, int(parts[0][0]))
	return nil
}

func (r *Registry) dropAgain(subject string, parts [][]byte) error {
	if len(parts) != 1 || len(parts[0]) != 2 {
		return errFrame
	}
	r.Drop(subject, int(parts[0][0])|int(parts[0][1])<<8)
	return nil
}
