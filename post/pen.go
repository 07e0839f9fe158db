package post

import (
	"parlour/api"
	"parlour/modes"
)

const (
	back    = 8
	tab     = 9
	newline = 10
	enter   = 13
	space   = 32 // the bytes below it have no signs of their own
	del     = 127
)

const (
	lastColumn = 65535
	tabWidth   = 8
)

// Bytes that go on with a character of UTF-8 are those from the first to the last.
const (
	firstGoingOn = 0x80
	lastGoingOn  = 0xbf
)

// pen writes to a terminal that is set so, and stands at a column, which is always one that there is.
type pen struct {
	t   api.Termios
	col int
}

// at is a pen at a column.
func at(t api.Termios, col int) pen { return pen{t: t, col: inside(col)} }

// write is what goes out of a byte.
func (p *pen) write(c byte) []byte {
	switch {
	case !p.has(api.OPOST):
		return p.put(c)
	case c == newline:
		return p.endLine()
	case c == enter:
		return p.goBack()
	case isSmall(c) && p.has(api.OLCUC):
		return p.put(c - 'a' + 'A')
	}
	return p.put(c)
}

// put is a byte that goes out as it is.
func (p *pen) put(c byte) []byte {
	p.move(c)
	return []byte{c}
}

// endLine is what goes out of a newline.
func (p *pen) endLine() []byte {
	if p.has(api.ONLCR) {
		p.col = 0
		return []byte{enter, newline}
	}
	return p.feed()
}

// goBack is what goes out of an enter.
func (p *pen) goBack() []byte {
	switch {
	case p.col == 0 && p.has(api.ONOCR):
		return nil
	case p.has(api.OCRNL):
		return p.feed() // ONLCR isn't asked: what was turned isn't turned again
	}
	return p.put(enter)
}

// feed is a newline that goes out alone.
func (p *pen) feed() []byte {
	if p.has(api.ONLRET) {
		p.col = 0
	}
	return []byte{newline}
}

// move has the column moved by a byte that goes out.
func (p *pen) move(c byte) {
	switch {
	case c == tab:
		p.col = inside(p.col - p.col%tabWidth + tabWidth)
	case c == back:
		p.col = max(p.col-1, 0)
	case c == enter:
		p.col = 0
	case p.hasSign(c):
		p.col = inside(p.col + 1)
	}
}

// hasSign says whether a byte puts a sign of its own on the screen.
func (p *pen) hasSign(c byte) bool {
	return c >= space && c != del && !(goesOn(c) && p.has(api.IUTF8))
}

// has says whether a flag is on.
func (p *pen) has(flag int) bool { return modes.Has(p.t, flag) }

// inside is a column if there is such a one, else the first one.
func inside(col int) int {
	if col < 0 || col > lastColumn {
		return 0
	}
	return col
}

// isSmall says whether a byte is a letter from a to z.
func isSmall(c byte) bool { return c >= 'a' && c <= 'z' }

// goesOn says whether a byte goes on with a character that another byte began.
func goesOn(c byte) bool { return c >= firstGoingOn && c <= lastGoingOn }
