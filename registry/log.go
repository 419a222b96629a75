package registry

import (
	"sigil/api"
	"sigil/digest"
)

const (
	head     = "sigregs\x01"
	fourLen  = 4           // of every number and sum of a record
	aheadLen = 3 * fourLen // of what stands in a record ahead of its content: its number, its length, their sum
)

// The acts.
const (
	actRegister byte = 1
	actRule     byte = 2
	actDrop     byte = 3
)

// registerParts are the parts of a Register's content.
func registerParts(subject string, v version) [][]byte {
	parts := [][]byte{{actRegister}, []byte(subject), []byte(v.typ)}
	for _, s := range v.schema.Texts() {
		parts = append(parts, []byte(s.Name), []byte(s.Text))
	}
	return parts
}

// ruleParts are the parts of a Rule's content.
func ruleParts(subject string, rule int) [][]byte {
	return [][]byte{{actRule}, []byte(subject), {byte(rule)}}
}

// dropParts are the parts of a Drop's content.
func dropParts(subject string, version int) [][]byte {
	return [][]byte{{actDrop}, []byte(subject), {byte(version), byte(version >> 8)}}
}

// write puts the record of an act behind the log, if there is room for it.
func (r *Registry) write(parts [][]byte) api.Errno {
	b := record(r.records, parts)
	if len(r.log)+len(b) > api.MaxLog {
		return api.ErrFull
	}
	r.log = append(r.log, b...)
	r.records++
	return api.OK
}

// record is the record of that number with these parts. They are few, and none is long.
func record(number int, parts [][]byte) []byte {
	content, _ := digest.Frame(parts)
	b := append(four(number), four(len(content))...)
	b = append(b, four(digest.Crc(b))...)
	b = append(b, content...)
	return append(b, four(digest.Crc(content))...)
}

// four is a number's four bytes, the lowest first.
func four(n int) []byte {
	return []byte{byte(n), byte(n >> 8), byte(n >> 16), byte(n >> 24)}
}

// numberOf tells the number whose four bytes stand in front.
func numberOf(b []byte) int {
	return int(b[0]) | int(b[1])<<8 | int(b[2])<<16 | int(b[3])<<24
}
