package program

import (
	"parlour/api"
	"parlour/modes"
	"parlour/sigset"
)

// placed is an operation in the program of some number of so many.
type placed struct {
	Op
	at, all int
}

func (p placed) anyway() bool { return true }

func (p placed) exit() bool { return within(p.A, 0, 255) }

func (p placed) text() bool { return len(p.Text) <= api.MaxText }

func (p placed) in() bool { return within(p.A, 1, api.MaxText) }

// later is asked of what has another program run: that it is a later one has all programs end.
func (p placed) later() bool { return p.A > p.at && p.A < p.all }

func (p placed) wait() bool { return within(p.A, 0, 3) }

func (p placed) kill() bool { return within(p.A, 0, 4) && isSignal(p.B) }

func (p placed) group() bool { return within(p.A, 0, 2) }

func (p placed) front() bool { return within(p.A, 0, 1) }

func (p placed) act() bool {
	_, e := sigset.Act(sigset.Actions{}, p.A, p.B)
	return e == api.OK
}

func (p placed) mask() bool { return isSignal(p.A) && within(p.B, 0, 1) }

func (p placed) sleep() bool { return within(p.A, 0, 1000) }

func (p placed) mode() bool { return isFlag(p.A) && within(p.B, 0, 1) }

// check says what is wrong with the program of some number of so many, by itself.
func (l rows) check(p Prog, at, all int) api.Errno {
	if !nameRight(p.Name) {
		return api.ErrForm
	}
	if len(p.Ops) > api.MaxOps {
		return api.ErrFull
	}
	for _, o := range p.Ops {
		if !l.right(placed{o, at, all}) {
			return api.ErrArg
		}
	}
	return api.OK
}

// right says whether an operation may be.
func (l rows) right(p placed) bool {
	r, ok := l.of(p.Kind)
	return ok && r.only(p.Op) && r.may(p)
}

// nameRight says whether a program may have a name.
func nameRight(name string) bool {
	if len(name) < 1 || len(name) > api.MaxName {
		return false
	}
	for i := range len(name) {
		if c := name[i]; (c < 'a' || c > 'z') && (c < '0' || c > '9') {
			return false
		}
	}
	return true
}

// isSignal says whether a number is a signal.
func isSignal(sig int) bool {
	_, ok := sigset.Name(sig)
	return ok
}

// isFlag says whether an opcode is that of a flag: of all opcodes, those alone can be on.
func isFlag(op int) bool { return modes.Has(modes.Set(api.Termios{}, op, true), op) }

// within says whether a number is from one to another.
func within(n, least, most int) bool { return n >= least && n <= most }
