package json

import "sigil/api"

// refuse throws a fault.
func refuse(at int, e api.Errno) {
	panic(api.Fault{Err: e, At: at})
}

// caught does something, and tells the fault that was thrown in it.
func caught(do func()) (bad api.Fault) {
	defer func() {
		if thrown := recover(); thrown != nil {
			bad = thrown.(api.Fault)
		}
	}()
	do()
	return api.Fault{}
}
