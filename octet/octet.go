// Package octet is layer 1: the data types of packets (RFC 4251, 5), as fields.
package octet

import "parlour/api"

// Write is fields in bytes.
func Write(l []api.Field) ([]byte, api.Errno) {
	for i, f := range l {
		if !mayStand(f.Kind, i, len(l)) {
			return nil, api.ErrArg
		}
	}
	var w writer
	ways := writers()
	for _, f := range l {
		if e := ways[f.Kind](&w, f); e != api.OK {
			return nil, e
		}
		if len(w.out) > api.MaxPacket {
			return nil, api.ErrFull
		}
	}
	return w.out, api.OK
}

// Read is the fields of these kinds that bytes are.
func Read(kinds []int, b []byte) ([]api.Field, api.Errno) {
	for i, k := range kinds {
		if !mayStand(k, i, len(kinds)) {
			return nil, api.ErrArg
		}
	}
	r := reader{left: b}
	ways := readers()
	var l []api.Field
	for _, k := range kinds {
		f, e := ways[k](&r)
		if e != api.OK {
			return nil, e
		}
		f.Kind = k
		l = append(l, f)
	}
	if len(r.left) > 0 {
		return nil, api.ErrForm
	}
	return l, api.OK
}

// Size is how many bytes a field takes.
func Size(f api.Field) int {
	// A right field alone is never too much for a packet, so Write refuses just the fields that aren't right.
	b, _ := Write([]api.Field{f})
	return len(b)
}

// mayStand says whether a field of a kind may have a place among so many.
func mayStand(kind, place, count int) bool {
	if kind < api.Byte || kind > api.Rest {
		return false
	}
	return kind != api.Rest || place == count-1
}

// nameRight says whether a name may be in a list.
func nameRight(name string) bool {
	if len(name) < 1 || len(name) > api.MaxName {
		return false
	}
	for i := range len(name) {
		if c := name[i]; c < 33 || c > 126 || c == ',' {
			return false
		}
	}
	return true
}
