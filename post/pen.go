package post

import (
	"parlour/api"
	"parlour/modes"
)

const (
	back    = 8
	tab     = 9
	newline = 10
	enter   = 13
	space   = 32 // the bytes below it have no signs of their own
	del     = 127
)

const (
	lastColumn = 65535
	tabWidth   = 8
)

// Bytes that go on with a character of UTF-8 are those from the first to the last.
const (
	firstGoingOn = 0x80
	lastGoingOn  = 0xbf
)

// pen writes to a terminal that is set so: it stands at a column, which is always one that there is, and knows what went out.
//
// What changes it answers nothing, so that no statement can ask the pen and change it in one: Go leaves open which of both comes first.
type pen struct {
	t   api.Termios
	col int
	out []byte
}

// at is a pen at a column.
func at(t api.Termios, col int) pen { return pen{t: t, col: inside(col)} }

// write has a byte go out, as what the setting makes of it.
func (p *pen) write(c byte) {
	switch {
	case !p.has(api.OPOST):
		p.put(c)
	case c == newline:
		p.endLine()
	case c == enter:
		p.goBack()
	case isSmall(c) && p.has(api.OLCUC):
		p.put(c - 'a' + 'A')
	default:
		p.put(c)
	}
}

// put has a byte go out as it is.
func (p *pen) put(c byte) {
	p.out = append(p.out, c)
	p.move(c)
}

// endLine has a newline go out, behind an enter where that is asked.
func (p *pen) endLine() {
	if p.has(api.ONLCR) {
		p.put(enter)
	}
	p.feed()
}

// goBack has an enter go out, or what is asked for one.
func (p *pen) goBack() {
	switch {
	case p.col == 0 && p.has(api.ONOCR): // nothing goes out
	case p.has(api.OCRNL):
		p.feed() // ONLCR isn't asked: what was turned isn't turned again
	default:
		p.put(enter)
	}
}

// feed has a newline go out alone.
func (p *pen) feed() {
	p.put(newline)
	if p.has(api.ONLRET) {
		p.col = 0
	}
}

// move has the column moved by a byte that goes out.
func (p *pen) move(c byte) {
	switch {
	case c == tab:
		p.col = inside(p.col - p.col%tabWidth + tabWidth)
	case c == back:
		p.col = max(p.col-1, 0)
	case c == enter:
		p.col = 0
	case p.hasSign(c):
		p.col = inside(p.col + 1)
	}
}

// hasSign says whether a byte puts a sign of its own on the screen.
func (p *pen) hasSign(c byte) bool {
	return c >= space && c != del && !(goesOn(c) && p.has(api.IUTF8))
}

// has says whether a flag is on.
func (p *pen) has(flag int) bool { return modes.Has(p.t, flag) }

// inside is a column if there is such a one, else the first one.
func inside(col int) int {
	if col < 0 || col > lastColumn {
		return 0
	}
	return col
}

// isSmall says whether a byte is a letter from a to z.
func isSmall(c byte) bool { return c >= 'a' && c <= 'z' }

// goesOn says whether a byte goes on with a character that another byte began.
func goesOn(c byte) bool { return c >= firstGoingOn && c <= lastGoingOn }
