package octet

import (
	"strings"

	"parlour/api"
)

// writer is the bytes of the fields that were written.
type writer struct{ out []byte }

// writers is what writes a field, by its kind.
func writers() [api.Rest + 1]func(*writer, api.Field) api.Errno {
	return [...]func(*writer, api.Field) api.Errno{
		api.Byte:   (*writer).putByte,
		api.Bool:   (*writer).putBool,
		api.Uint32: (*writer).putUint32,
		api.String: (*writer).putString,
		api.Names:  (*writer).putNames,
		api.Rest:   (*writer).putRest,
	}
}

func (w *writer) putByte(f api.Field) api.Errno { return w.small(f.N, 255) }

func (w *writer) putBool(f api.Field) api.Errno { return w.small(f.N, 1) }

func (w *writer) putUint32(f api.Field) api.Errno {
	w.number(f.N)
	return api.OK
}

func (w *writer) putString(f api.Field) api.Errno {
	if len(f.Text) > api.MaxString {
		return api.ErrFull
	}
	w.number(uint32(len(f.Text)))
	w.out = append(w.out, f.Text...)
	return api.OK
}

func (w *writer) putNames(f api.Field) api.Errno {
	if len(f.List) > api.MaxNames {
		return api.ErrFull
	}
	for _, name := range f.List {
		if !nameRight(name) {
			return api.ErrForm
		}
	}
	text := strings.Join(f.List, ",")
	w.number(uint32(len(text)))
	w.out = append(w.out, text...)
	return api.OK
}

func (w *writer) putRest(f api.Field) api.Errno {
	if len(f.Text) > api.MaxPacket {
		return api.ErrFull
	}
	w.out = append(w.out, f.Text...)
	return api.OK
}

// small puts a number that takes one byte.
func (w *writer) small(n, most uint32) api.Errno {
	if n > most {
		return api.ErrRange
	}
	w.out = append(w.out, byte(n))
	return api.OK
}

// number puts a number that takes four bytes.
func (w *writer) number(n uint32) {
	w.out = append(w.out, byte(n>>24), byte(n>>16), byte(n>>8), byte(n))
}
