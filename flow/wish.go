package flow

import (
	"parlour/api"
	"parlour/modes"
)

// outOff is the wish that output stops.
func (f Flow) outOff(api.Termios) (Flow, []byte) {
	f.Stopped = true
	return f, nil
}

// outOn is the wish that output goes on.
func (f Flow) outOn(api.Termios) (Flow, []byte) {
	f.Stopped = false
	return f, nil
}

// inOff is the wish that the other end stops; it isn't Held by that, so no mark tells it to start again.
func (f Flow) inOff(t api.Termios) (Flow, []byte) { return f, character(t, api.VSTOP) }

// inOn is the wish that the other end goes on.
func (f Flow) inOn(t api.Termios) (Flow, []byte) { return f, character(t, api.VSTART) }

// character is a character as it is told; one that there isn't is told nobody.
func character(t api.Termios, op int) []byte {
	c, ok := modes.Char(t, op)
	if !ok {
		return nil
	}
	return []byte{c}
}
