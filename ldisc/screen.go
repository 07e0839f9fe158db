package ldisc

import (
	"slices"

	"parlour/api"
	"parlour/flow"
	"parlour/modes"
	"parlour/post"
)

// has says whether a flag is on.
func (d *Disc) has(flag int) bool { return modes.Has(d.T, flag) }

// hasRoom says whether bytes may stand behind those that go out.
func (d *Disc) hasRoom(b []byte) bool { return len(b) <= api.MaxOutput-len(d.Out) }

// put has bytes go out as they are; where there is no room for all of them, they are lost.
func (d *Disc) put(b []byte) {
	if d.hasRoom(b) {
		d.Out = slices.Concat(d.Out, b)
	}
}

// show has bytes go out as a program's do; those that are lost don't move the column.
func (d *Disc) show(b []byte) {
	out, col := post.Bytes(d.T, d.Col, b)
	if d.hasRoom(out) {
		d.put(out)
		d.Col = col
	}
}

// echo shows what is typed.
func (d *Disc) echo(b []byte) {
	if d.has(api.ECHO) {
		d.show(b)
	}
}

// beep tells that there is no room for what is typed.
func (d *Disc) beep() {
	if d.has(api.IMAXBEL) {
		d.put([]byte{bell})
	}
}

// mark tells the other end to stop, or to start, by what waits to be read.
func (d *Disc) mark() {
	f, told := flow.Mark(d.T, d.Flow, d.Used(), lowMark, highMark)
	d.Flow = f
	d.put(told)
}
