package table

import (
	"slices"

	"parlour/api"
)

// copied is a table in memory of its own, which may be changed.
func copied(t Table) Table {
	t.Procs = append([]Proc(nil), t.Procs...)
	return t
}

// born is a table of our own with a process more, if there is room, and the process's number.
func born(t Table, p Proc) (Table, int, api.Errno) {
	if len(t.Procs) >= api.MaxProcs {
		return t, 0, api.ErrAgain
	}
	p.Pid, p.State = t.Next, Runs
	t.Procs = append(t.Procs, p)
	t.Next++
	return t, p.Pid, api.OK
}

// without is a table of our own without the process of a place.
func without(t Table, i int) Table {
	t.Procs = slices.Delete(t.Procs, i, i+1)
	return t
}

// freed is a table of our own without the zombies that nobody is told of. Where one is gone its children, if they are zombies, are such ones, too.
func freed(t Table) Table {
	for {
		forgotten := places(t, func(p Proc) bool { return isForgotten(t, p) })
		if len(forgotten) == 0 {
			return t
		}
		t = without(t, forgotten[0])
	}
}
