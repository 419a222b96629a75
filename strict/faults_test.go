package strict_test

import (
	"testing"

	"sigil/api"
)

// wrong is a record of w.W that is at fault, at a place of it. Ends: the fault hangs on the end of the message.
type wrong struct {
	b    []byte
	at   int
	e    api.Errno
	ends bool
}

// wrongs are records of each fault of P1002 to P1006, at each place where it can be, right ahead of it.
func wrongs() []wrong {
	const number = repeated + api.TSint32
	return []wrong{
		// P1002, of a tag
		{row("80 80"), 0, api.ErrEnds, true}, {row("ff ff ff ff ff ff ff ff ff 7f"), 0, api.ErrOver, false}, {row("98 00"), 0, api.ErrLonger, false}, {row("00"), 0, api.ErrNumber, false}, {row("1f"), 0, api.ErrKind, false}, {row("98 01"), 0, api.ErrStranger, false}, {row("1d"), 0, api.ErrWire, false},
		{row("18 01 18 01"), 2, api.ErrOrder, false}, {rows(row("18 01"), tag(member+3, 0), row("00"), tag(member+4, 0), row("00")), 5, api.ErrBoth, false},
		// P1003, of a number
		{row("18"), 1, api.ErrEnds, true}, {row("18 ff"), 1, api.ErrEnds, true}, {row("4d 00 00 00"), 1, api.ErrEnds, true}, {row("51 00 00 00 00 00 00 00"), 1, api.ErrEnds, true}, {row("18 ff ff ff ff ff ff ff ff ff 02"), 1, api.ErrOver, false}, {row("18 81 00"), 1, api.ErrLonger, false}, {row("18 80 80 80 80 08"), 1, api.ErrForm, false},
		// P1004, of a text
		{row("72"), 1, api.ErrEnds, true}, {row("72 7f 61"), 1, api.ErrEnds, true}, {row("72 81 00 61"), 1, api.ErrLonger, false}, {row("72 ff ff ff ff ff ff ff ff ff 02"), 1, api.ErrOver, false}, {row("72 03 61 62 c3"), 4, api.ErrUtf8, false},
		// P1005, of what stands in a record
		{row("18 00"), 1, api.ErrZero, false}, {row("4d 00 00 00 00"), 1, api.ErrZero, false}, {row("72 00"), 1, api.ErrZero, false}, {row("7a 00"), 1, api.ErrZero, false}, {record(number), 2, api.ErrEmpty, false}, {rows(tag(number, 2), row("7f 01")), 2, api.ErrEnds, true}, {record(number, row("01 80")), 4, api.ErrEnds, false}, {record(number, row("02 80 80 80 80 10")), 4, api.ErrForm, false},
		{record(api.TMessage, row("18")), 4, api.ErrEnds, false}, {rows(tag(api.TMessage, 2), row("7f")), 2, api.ErrEnds, true}, {record(api.TMessage, row("00")), 3, api.ErrNumber, false},
		// P1006, of a pair
		{record(mapped + api.TBool), 3, api.ErrPair, false}, {record(mapped+api.TBool, row("0a 00")), 5, api.ErrPair, false}, {record(mapped+api.TBool, row("0a 00 10 00 00")), 7, api.ErrPair, false}, {record(mapped+api.TBool, row("0a 00 10 02")), 6, api.ErrForm, false}, {record(mapped+api.TBool, row("0a 01 ff")), 5, api.ErrUtf8, false}, {rows(tag(mapped+api.TBool, 2), row("7f 0a 00")), 2, api.ErrEnds, true},
		{rows(record(mapped+api.TBool, row("0a 00 10 00")), record(mapped+api.TBool, row("0a 00 10 00"))), 11, api.ErrKeys, false},
	}
}

func TestEachFault(t *testing.T) { // P1002 to P1006: each fault by itself, in a message wherever it stands
	for _, c := range wrongs() {
		within(t, c.b, c.at, c.e)
		ahead := row("09 01 00 00 00 00 00 00 00 15 01 00 00 00")
		within(t, rows(ahead, c.b), len(ahead)+c.at, c.e)
	}
}

func TestTwoFaults(t *testing.T) { // P1001: every two faults: the left one is told
	s := wideSchema()
	for _, c := range wrongs() {
		for _, d := range wrongs() {
			if !c.ends {
				answers(t, s, "w.W", rows(c.b, d.b), c.at, c.e)
			}
			in := record(repeated+api.TMessage, c.b)
			place := len(in) - len(c.b) + c.at
			answers(t, s, "w.W", rows(in, d.b), place, c.e)                                // in a message ahead
			answers(t, s, "w.W", rows(in, record(repeated+api.TMessage, d.b)), place, c.e) // in two messages beside one another
			in = record(mapped+api.TMessage, row("0a 00"), record(2, c.b), d.b)
			answers(t, s, "w.W", in, len(in)-len(c.b)-len(d.b)+c.at, c.e) // in a pair, with more behind the message
			in = record(ofV, record(2, c.b), d.b)
			answers(t, s, "w.W", in, len(in)-len(c.b)-len(d.b)+c.at, c.e) // in messages of two types
			in = record(api.TMessage, record(optional+api.TMessage, c.b), d.b)
			answers(t, s, "w.W", in, len(in)-len(c.b)-len(d.b)+c.at, c.e) // in a message, and in the one around it
		}
	}
}

func TestFaultsAndDepth(t *testing.T) { // P1002: each fault ahead of a 65th message, and behind it
	s := wideSchema()
	over := record(api.TMessage)
	for _, c := range wrongs() {
		if !c.ends {
			in := rows(c.b, over)
			all := deep(64, in)
			want, place := c.e, len(all)-len(in)+c.at
			if c.b[0] == over[0] { // the fault stands in a message itself
				want, place = api.ErrDepth, len(all)-len(in)
			}
			refuses(t, s, "w.W", all, place, want)
		}
		in := rows(over, c.b)
		all := deep(64, in)
		refuses(t, s, "w.W", all, len(all)-len(in), api.ErrDepth)
	}
}
