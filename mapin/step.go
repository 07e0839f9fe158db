package mapin

import "parlour/api"

// step is what one byte becomes: none, one or more, so that what one step answers can be handed to the next one, whichever it is.
type step func(t api.Termios, c byte) []byte

// all is what becomes of bytes, one by one, as a list of its own.
func (s step) all(t api.Termios, b []byte) []byte {
	var l []byte
	for _, c := range b {
		l = append(l, s(t, c)...)
	}
	return l
}

// stripped is Strip as a step.
func stripped(t api.Termios, c byte) []byte { return []byte{Strip(t, c)} }

// turned is Turn as a step.
func turned(t api.Termios, c byte) []byte {
	if end, ok := Turn(t, c); ok {
		return []byte{end}
	}
	return nil
}
