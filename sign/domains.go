package sign

import "sigil/digest"

// The domains, by their places in the table: what is hashed in one is never taken for what is hashed in another.
const (
	ofSchema = iota
	ofType
	ofMessage
	ofLeaf
	ofNode
	ofField
	ofList
	ofMap
	ofPair
	ofCommit
)

var domains = [...]string{
	ofSchema:  "sigil.schema",
	ofType:    "sigil.type",
	ofMessage: "sigil.message",
	ofLeaf:    "sigil.leaf",
	ofNode:    "sigil.node",
	ofField:   "sigil.field",
	ofList:    "sigil.list",
	ofMap:     "sigil.map",
	ofPair:    "sigil.pair",
	ofCommit:  "sigil.commit",
}

// hashed is the digest of parts in a domain. Nothing that is hashed here is too long for a frame: the texts of a schema, a text of a message and names are bounded, all else are digests and numbers.
func hashed(domain int, parts ...[]byte) []byte {
	d, _ := digest.Domain(domains[domain], parts)
	return d
}

// n8 is a number's eight bytes, the lowest first.
func n8(n int) []byte {
	b := make([]byte, 8)
	for i := range b {
		b[i] = byte(n >> (8 * i))
	}
	return b
}
