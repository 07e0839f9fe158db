package octet

import (
	"bytes"
	"strings"

	"parlour/api"
)

// reader is the bytes that weren't read yet.
type reader struct{ left []byte }

// readers is what reads a field, by its kind.
func readers() [api.Rest + 1]func(*reader) (api.Field, api.Errno) {
	return [...]func(*reader) (api.Field, api.Errno){
		api.Byte:   (*reader).getByte,
		api.Bool:   (*reader).getBool,
		api.Uint32: (*reader).getUint32,
		api.String: (*reader).getString,
		api.Names:  (*reader).getNames,
		api.Rest:   (*reader).getRest,
	}
}

func (r *reader) getByte() (api.Field, api.Errno) {
	b, e := r.take(1)
	if e != api.OK {
		return api.Field{}, e
	}
	return api.Field{N: uint32(b[0])}, api.OK
}

func (r *reader) getBool() (api.Field, api.Errno) {
	f, e := r.getByte()
	// Any byte but 0 is true (RFC 4251, 5).
	f.N = min(f.N, 1)
	return f, e
}

func (r *reader) getUint32() (api.Field, api.Errno) {
	n, e := r.number()
	return api.Field{N: n}, e
}

func (r *reader) getString() (api.Field, api.Errno) {
	b, e := r.text()
	if e != api.OK {
		return api.Field{}, e
	}
	return api.Field{Text: bytes.Clone(b)}, api.OK
}

func (r *reader) getNames() (api.Field, api.Errno) {
	b, e := r.text()
	if e != api.OK {
		return api.Field{}, e
	}
	if len(b) == 0 {
		return api.Field{}, api.OK
	}
	names := strings.Split(string(b), ",")
	if len(names) > api.MaxNames {
		return api.Field{}, api.ErrFull
	}
	for _, name := range names {
		if !nameRight(name) {
			return api.Field{}, api.ErrForm
		}
	}
	return api.Field{List: names}, api.OK
}

func (r *reader) getRest() (api.Field, api.Errno) {
	if len(r.left) > api.MaxPacket {
		return api.Field{}, api.ErrFull
	}
	b := r.left
	r.left = nil
	return api.Field{Text: bytes.Clone(b)}, api.OK
}

// take takes bytes off the front; they are still the caller's own memory.
func (r *reader) take(n int) ([]byte, api.Errno) {
	if len(r.left) < n {
		return nil, api.ErrShort
	}
	b := r.left[:n]
	r.left = r.left[n:]
	return b, api.OK
}

// number takes a number of four bytes.
func (r *reader) number() (uint32, api.Errno) {
	b, e := r.take(4)
	if e != api.OK {
		return 0, e
	}
	return uint32(b[0])<<24 | uint32(b[1])<<16 | uint32(b[2])<<8 | uint32(b[3]), api.OK
}

// text takes the bytes of a text with its length ahead.
func (r *reader) text() ([]byte, api.Errno) {
	n, e := r.number()
	if e != api.OK {
		return nil, e
	}
	// What tells too much is refused whether or not the bytes are there.
	if n > api.MaxString {
		return nil, api.ErrFull
	}
	return r.take(int(n))
}
