package ldisc

import (
	"slices"

	"parlour/api"
	"parlour/canon"
	"parlour/echo"
	"parlour/editor"
	"parlour/mapin"
)

const (
	bell    = 7
	back    = 8
	newline = 10
	caret   = '^'
)

// longestLine is how many bytes a line may have that is edited: there is always room for the byte that ends it.
const longestLine = api.MaxCanon - 1

// breakOff is a character that ends what goes on: what waits at either end is out of date.
func (d *Disc) breakOff(c byte) {
	if !d.has(api.NOFLSH) {
		d.flushIn()
		d.flushOut()
	}
	d.startAndEcho(c)
}

// suspend is the character that halts what goes on: what it wrote still goes out.
func (d *Disc) suspend(c byte) {
	if !d.has(api.NOFLSH) {
		d.flushIn()
	}
	d.startAndEcho(c)
}

// startAndEcho has output go on, so that a signal's character is seen.
func (d *Disc) startAndEcho(c byte) {
	if d.has(api.IXON) {
		d.Flow.Stopped = false
	}
	d.echo(echo.Show(d.T, c))
}

// quote has the next byte taken as it is.
func (d *Disc) quote(byte) {
	d.Next = true
	if d.has(api.ECHOCTL) {
		d.echo([]byte{caret, back})
	}
}

// erase takes the last character off the line.
func (d *Disc) erase(c byte) {
	rest, gone := editor.Erase(d.T, d.Line)
	d.shorten(c, rest, gone)
}

// eraseWord takes the last word off the line.
func (d *Disc) eraseWord(c byte) {
	rest, gone := editor.Word(d.T, d.Line)
	d.shorten(c, rest, gone)
}

// shorten has the line be the rest of it, if a byte took something off.
func (d *Disc) shorten(c byte, rest, gone []byte) {
	if len(gone) == 0 {
		return
	}
	d.Line = rest
	if d.has(api.ECHOE) {
		d.echo(echo.Rub(d.T, d.From, rest, gone))
		return
	}
	d.echo(echo.Show(d.T, c))
}

// kill takes all off the line.
func (d *Disc) kill(c byte) {
	gone := d.Line
	d.Line = nil
	if d.has(api.ECHOE) && d.has(api.ECHOKE) {
		d.echo(echo.Rub(d.T, d.From, nil, gone))
		return
	}
	shown := echo.Show(d.T, c)
	if d.has(api.ECHOK) {
		shown = append(shown, newline)
	}
	d.echo(shown) // at once: where there is no room for all of it, all of it is lost
}

// reprint shows the line anew.
func (d *Disc) reprint(c byte) {
	d.echo(append(echo.Show(d.T, c), newline))
	d.From = d.Col
	d.echo(echo.Line(d.T, d.Line))
}

// endByEof ends the line without a byte.
func (d *Disc) endByEof(byte) { d.end(canon.Line{Text: d.Line, Eof: true}) }

// endByByte ends the line by a byte.
func (d *Disc) endByByte(c byte) {
	if !d.end(canon.Line{Text: slices.Concat(d.Line, []byte{c})}) {
		return
	}
	if c != newline {
		d.echo(echo.Show(d.T, c))
		return
	}
	if d.has(api.ECHO) || d.has(api.ECHONL) {
		d.show([]byte{newline})
	}
}

// end has a line wait to be read, and the next one begin; false: there is no room for it.
func (d *Disc) end(x canon.Line) bool {
	lines, ok := canon.Put(d.Lines, x)
	if !ok {
		d.beep()
		return false
	}
	d.Lines, d.Line = lines, nil
	return true
}

// takeMarked takes a byte as it is read.
func (d *Disc) takeMarked(c byte) { d.take(c, mapin.Mark(d.T, c)) }

// take has bytes b of a byte stand behind what was typed ahead of it.
func (d *Disc) take(c byte, b []byte) {
	byLines := d.has(api.ICANON)
	switch {
	case byLines && len(b) <= longestLine-len(d.Line):
		if len(d.Line) == 0 {
			d.From = d.Col
		}
		d.Line = slices.Concat(d.Line, b)
	case !byLines && len(b) <= api.MaxInput-len(d.Raw):
		d.Raw = slices.Concat(d.Raw, b)
	default:
		d.beep()
		return
	}
	d.echo(echo.Show(d.T, c))
}
