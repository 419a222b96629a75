package compat

import (
	"strconv"
	"strings"

	"sigil/api"
)

// words tells what a rule is about; of what is no rule nothing.
func words(rule int) string {
	switch rule {
	case api.BGone:
		return "a number that is not reserved"
	case api.BType:
		return "another type"
	case api.BCard:
		return "another card"
	case api.BKey:
		return "another key"
	case api.BOneof:
		return "fields into one oneof"
	case api.BMessage:
		return "a message against none"
	}
	return ""
}

// dotted tells a path's numbers.
func dotted(path []int) string {
	if len(path) == 0 {
		return "top"
	}
	l := make([]string, len(path))
	for i, n := range path {
		l[i] = strconv.Itoa(n)
	}
	return strings.Join(l, ".")
}
