package table

import (
	"parlour/api"
	"parlour/sigset"
)

// isRight says whether a table may be: the numbers of its processes rise, none was given twice, and none is the next one's.
func isRight(t Table) bool {
	last := 0
	for _, p := range t.Procs {
		if p.Pid <= last || p.Pid >= t.Next {
			return false
		}
		last = p.Pid
	}
	return t.Next > 0 && len(t.Procs) <= api.MaxProcs
}

// places is where the processes stand that fit, rising; in a table that isn't right none do.
func places(t Table, fits func(p Proc) bool) []int {
	if !isRight(t) {
		return nil
	}
	var l []int
	for i, p := range t.Procs {
		if fits(p) {
			l = append(l, i)
		}
	}
	return l
}

// refuses is why a call is refused that needs some processes that live.
func refuses(t Table, pids ...int) api.Errno {
	if !isRight(t) {
		return api.ErrForm
	}
	for _, pid := range pids {
		if !Live(t, pid) {
			return api.ErrNone
		}
	}
	return api.OK
}

// lives says whether a process is no zombie, whatever else it is.
func lives(p Proc) bool { return p.State != Zombie }

// hasPid finds a process by its number.
func hasPid(pid int) func(p Proc) bool {
	return func(p Proc) bool { return p.Pid == pid }
}

// livesAs finds a process by its number, if it lives.
func livesAs(pid int) func(p Proc) bool {
	return func(p Proc) bool { return p.Pid == pid && lives(p) }
}

// isChildOf finds a process's children, zombies among them.
func isChildOf(pid int) func(p Proc) bool {
	return func(p Proc) bool { return p.Parent == pid }
}

// isMember finds the processes of a group that live.
func isMember(group int) func(p Proc) bool {
	return func(p Proc) bool { return p.Group == group && lives(p) }
}

// isSeenTo says whether a process's parent sees to its group from outside.
func isSeenTo(t Table, p Proc) bool {
	parent, ok := Get(t, p.Parent)
	return ok && lives(parent) && parent.Session == p.Session && parent.Group != p.Group
}

// isForgotten says whether a process has ended and there is nobody to be told of it. No process has the number 0, so that a parent 0 isn't there.
func isForgotten(t Table, p Proc) bool {
	parent, ok := Get(t, p.Parent)
	return !lives(p) && (!ok || parent.Acts[api.SIGCHLD] == sigset.Ignore)
}

// mayMove says whether a process may put another one, or itself, into a group.
func mayMove(p, target Proc) bool {
	isOwn := target.Pid == p.Pid || target.Parent == p.Pid
	return isOwn && target.Session == p.Session && target.Session != target.Pid
}

// mayJoin says whether a process may be put into a group: a new one of its own number, or one that there is in its session.
func mayJoin(t Table, p Proc, group int) bool {
	member := isMember(group)
	there := places(t, func(q Proc) bool { return member(q) && q.Session == p.Session })
	return group == p.Pid || len(there) > 0
}

// asks says whether a wait is to be so.
func asks(how, way int) bool { return how >= 0 && how&way != 0 }
