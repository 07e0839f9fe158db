package ldisc

import (
	"slices"

	"parlour/api"
	"parlour/canon"
	"parlour/raw"
)

// readLine is a read by lines, which no time makes done.
func (d *Disc) readLine(n, _ int) ([]byte, bool) {
	b, lines, done := canon.Read(d.Lines, n)
	d.Lines = lines
	return b, done
}

// readRaw is a read that isn't by lines.
func (d *Disc) readRaw(n, waited int) ([]byte, bool) {
	n, done := raw.Ready(d.T.Min, d.T.Time, len(d.Raw), n, d.Idle, waited)
	if !done {
		return nil, false
	}
	b := copied(d.Raw[:n])
	d.Raw = d.Raw[n:]
	return b, true
}

// linesToRaw has all that was typed wait as bytes, as many as there is room for.
func (d *Disc) linesToRaw() {
	b := slices.Concat(d.Raw, canon.Flat(d.Lines), d.Line)
	d.Raw = b[:min(len(b), api.MaxInput)]
	d.Lines, d.Line, d.Next = nil, nil, false
}

// rawToLines has the bytes that wait be a line, which no byte ended.
func (d *Disc) rawToLines() {
	if len(d.Raw) == 0 {
		return
	}
	d.Lines = slices.Concat(d.Lines, []canon.Line{{Text: d.Raw, Eof: true}})
	d.Raw = nil
}

// flushIn throws away what was typed.
func (d *Disc) flushIn() { d.Line, d.Lines, d.Raw, d.Next = nil, nil, nil, false }

// flushOut throws away what goes out.
func (d *Disc) flushOut() { d.Out = nil }

// copied is the same bytes in memory of their own.
func copied(b []byte) []byte { return append([]byte(nil), b...) }
