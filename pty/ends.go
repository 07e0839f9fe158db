package pty

import (
	"parlour/api"
	"parlour/ldisc"
)

// fullInput is how many bytes wait to be read where no more are typed.
const fullInput = 4096

// isThere says whether there is a terminal, and sees to it that it has a discipline.
func (p *Pty) isThere() bool {
	if p == nil {
		return false
	}
	if p.Disc == nil {
		p.Disc = &ldisc.Disc{}
	}
	return true
}

// refuses is why a call is refused that needs the master's end.
func (p *Pty) refuses() api.Errno {
	switch {
	case !p.isThere():
		return api.ErrNil
	case p.Hung:
		return api.ErrIO
	}
	return api.OK
}

// isOver says whether nothing goes out any more, unless somebody opens the slave's end.
func (p *Pty) isOver() bool { return p.Slaves <= 0 && len(p.Disc.Out) == 0 }

// setEmpty sets the discipline anew once what was typed is thrown away.
func (p *Pty) setEmpty(t api.Termios) api.Errno {
	p.Disc.Flush(ldisc.In)
	return p.Disc.Set(t)
}

// events is signals to the group in front, if there is one.
func (p *Pty) events(signals ...int) []Event {
	if p.Group == 0 {
		return nil
	}
	var l []Event
	for _, s := range signals {
		l = append(l, Event{Group: p.Group, Sig: s})
	}
	return l
}

// typeAll types bytes, as long as not too many wait: how many were typed, and the signals that come of them.
func typeAll(b []byte, used func() int, input func(c byte) []int) (int, []int) {
	var signals []int
	for i, c := range b {
		if used() >= fullInput {
			return i, signals
		}
		signals = append(signals, input(c)...)
	}
	return len(b), signals
}

// takeNow takes bytes that go out; where none do, it tells whether there may be some later.
func takeNow(n int, output func(n int) []byte, isOver func() bool) ([]byte, api.Errno) {
	b := output(n)
	switch {
	case len(b) > 0:
		return b, api.OK
	case isOver():
		return nil, api.ErrIO
	case n > 0:
		return nil, api.ErrAgain
	}
	return nil, api.OK
}

// readNow reads, if the read needn't wait.
func readNow(n, waited int, read func(n, waited int) ([]byte, bool)) ([]byte, api.Errno) {
	b, done := read(n, waited)
	if !done {
		return nil, api.ErrAgain
	}
	return b, api.OK
}

// writeNow writes as much as there is room for.
func writeNow(b []byte, write func(b []byte) int) (int, api.Errno) {
	n := write(b)
	if n == 0 && len(b) > 0 {
		return 0, api.ErrAgain
	}
	return n, api.OK
}
