package bind

import (
	"errors"
	"strings"

	"sigil/api"
)

// The reasons for a refusal.
var (
	errLong        = errors.New("longer, or more, than may be")
	errName        = errors.New("a source without a name")
	errImport      = errors.New("no such source, or twice")
	errTwice       = errors.New("a name that stands twice")
	errUnknown     = errors.New("a name that is nothing visible")
	errNoType      = errors.New("a name that is no type")
	errFieldNumber = errors.New("a field's number that may not be")
	errEnumValue   = errors.New("an enum's values that may not be")
	errMapKey      = errors.New("a type that no map's key has")
	errJsonName    = errors.New("two fields of one JSON name")
	errReserved    = errors.New("what is reserved, or reserved twice")
	errTypes       = errors.New("too many types or fields")
)

// refusal is what is thrown where sources are refused: the reason with what it is about.
type refusal struct {
	why  error // one of the above, or parse's api.Errno
	file int
	at   int
	name string
}

// Error tells the reason, and the name of what is at fault.
func (r refusal) Error() string { return r.why.Error() + ": " + r.name }

// Unwrap tells the reason.
func (r refusal) Unwrap() error { return r.why }

// refuse throws a reason that is about a name in a source.
func refuse(why error, file int, name string) {
	panic(refusal{why: why, file: file, name: name})
}

// fault tells a refusal as it is answered. Its name may be a piece of what was handed in.
func (r refusal) fault() api.Fault {
	return api.Fault{Err: errno(r), File: r.file, At: r.at, Name: strings.Clone(r.name)}
}

// errno tells the number of a reason.
func errno(err error) api.Errno {
	switch {
	case errors.Is(err, errLong):
		return api.ErrLong
	case errors.Is(err, errName):
		return api.ErrName
	case errors.Is(err, errImport):
		return api.ErrImport
	case errors.Is(err, errTwice):
		return api.ErrTwice
	case errors.Is(err, errUnknown):
		return api.ErrUnknown
	case errors.Is(err, errNoType):
		return api.ErrNoType
	case errors.Is(err, errFieldNumber):
		return api.ErrFieldNumber
	case errors.Is(err, errEnumValue):
		return api.ErrEnumValue
	case errors.Is(err, errMapKey):
		return api.ErrMapKey
	case errors.Is(err, errJsonName):
		return api.ErrJsonName
	case errors.Is(err, errReserved):
		return api.ErrReserved
	case errors.Is(err, errTypes):
		return api.ErrTypes
	}
	var told api.Errno
	errors.As(err, &told)
	return told
}
