package json

import (
	"strings"

	"sigil/api"
)

const alphabet = "ABCDEFGHIJKLMNOPQRSTUVWXYZabcdefghijklmnopqrstuvwxyz0123456789+/"

// base64 is the code of TBytes. As with numbers, a text means what is read from it only if it is what is told of that.
func base64() code {
	return code{
		func(v *api.Value) string { return toBase64(v.Text) },
		func(text string) (api.Value, api.Errno) {
			s := fromBase64(text)
			if toBase64(s) != text {
				return api.Value{}, api.ErrBase64
			}
			return api.Value{Kind: api.VText, Text: s}, api.OK
		},
	}
}

// toBase64 writes four letters for each three bytes; those of bytes that are not there are =.
func toBase64(s string) string {
	out := make([]byte, 0, (len(s)+2)/3*4)
	for ; len(s) > 0; s = s[min(3, len(s)):] {
		var three [3]byte
		count := copy(three[:], s)
		bits := int(three[0])<<16 | int(three[1])<<8 | int(three[2])
		for i := range 4 {
			if i > count {
				out = append(out, '=')
				continue
			}
			out = append(out, alphabet[bits>>(18-6*i)&63])
		}
	}
	return string(out)
}

// fromBase64 reads the bytes of the letters, six bits each. Letters of no meaning are taken as if they had one.
func fromBase64(s string) string {
	s = strings.TrimRight(s, "=")
	out := make([]byte, 0, len(s)*3/4)
	bits, count := 0, 0
	for i := range len(s) {
		bits = bits<<6 | strings.IndexByte(alphabet, s[i])&63
		count += 6
		if count >= 8 {
			count -= 8
			out = append(out, byte(bits>>count))
		}
	}
	return string(out)
}
