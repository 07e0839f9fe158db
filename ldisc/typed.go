package ldisc

import (
	"parlour/api"
	"parlour/flow"
	"parlour/mapin"
	"parlour/modes"
)

// way is what a character does where a flag is on, and the signal that comes of it, if it is one that sends any.
type way struct {
	char   int // the character's opcode
	flag   int // the flag without which it means nothing
	does   func(c byte)
	signal int
}

// fits says whether a byte is the way's character, and means something.
func (w way) fits(t api.Termios, c byte) bool {
	return modes.Has(t, w.flag) && modes.Is(t, w.char, c)
}

// first is the first of some ways that fits a byte; false: none does.
func first(ways []way, t api.Termios, c byte) (way, bool) {
	for _, w := range ways {
		if w.fits(t, c) {
			return w, true
		}
	}
	return way{}, false
}

// signalWays is the characters that send signals.
func (d *Disc) signalWays() []way {
	return []way{
		{char: api.VINTR, flag: api.ISIG, does: d.breakOff, signal: api.SIGINT},
		{char: api.VQUIT, flag: api.ISIG, does: d.breakOff, signal: api.SIGQUIT},
		{char: api.VSUSP, flag: api.ISIG, does: d.suspend, signal: api.SIGTSTP},
	}
}

// lineWays is the characters that edit a line and end it.
func (d *Disc) lineWays() []way {
	return []way{
		{char: api.VLNEXT, flag: api.IEXTEN, does: d.quote},
		{char: api.VERASE, flag: api.ICANON, does: d.erase},
		{char: api.VWERASE, flag: api.IEXTEN, does: d.eraseWord},
		{char: api.VKILL, flag: api.ICANON, does: d.kill},
		{char: api.VREPRINT, flag: api.IEXTEN, does: d.reprint},
		{char: api.VEOF, flag: api.ICANON, does: d.endByEof},
		{char: api.VEOL, flag: api.ICANON, does: d.endByByte},
		{char: api.VEOL2, flag: api.IEXTEN, does: d.endByByte},
	}
}

// typed is a byte that is typed, stripped already: the signals that come of it.
func (d *Disc) typed(c byte) []int {
	if d.Next {
		d.Next = false
		d.take(c, []byte{c})
		return nil
	}
	f, used := flow.Typed(d.T, d.Flow, c)
	d.Flow = f // it may have changed by a byte that isn't used up, too
	if used {
		return nil
	}
	if w, ok := first(d.signalWays(), d.T, c); ok {
		w.does(c)
		return []int{w.signal}
	}
	if c, ok := mapin.Turn(d.T, c); ok {
		d.enter(c)
	}
	return nil
}

// enter is a byte that stops, starts and signals nothing.
func (d *Disc) enter(c byte) {
	if !d.has(api.ICANON) {
		d.takeMarked(c)
		return
	}
	w, ok := first(d.lineWays(), d.T, c)
	switch {
	case ok:
		w.does(c)
	case c == newline:
		d.endByByte(c)
	default:
		d.takeMarked(c)
	}
}
