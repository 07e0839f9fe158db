package table_test

import (
	"fmt"
	"math"
	"slices"
	"testing"

	"parlour/api"
	"parlour/table"
)

// P20.5: who may be put into which group, one reason at a time.
func TestSetGroup(t *testing.T) {
	x := of(
		row(1, 0, 1, 1, runs), row(2, 1, 1, 1, runs), row(3, 1, 3, 1, stopped), row(4, 2, 1, 1, runs), row(5, 1, 5, 5, runs), row(6, 5, 5, 5, runs),
		row(7, 1, 7, 1, zombie), row(8, 1, 9, 5, runs), row(10, 6, 10, 10, runs), row(11, 1, -4, 1, runs), row(12, 11, 0, 1, runs),
	)
	for _, y := range []struct {
		pid, target, group int
		e                  api.Errno
	}{
		{1, 2, 2, api.OK}, {1, 2, 1, api.OK}, {1, 2, 3, api.OK}, {1, 2, -4, api.OK}, {1, 2, 0, api.OK}, {2, 2, 2, api.OK}, {2, 2, 1, api.OK}, {2, 2, 3, api.OK}, {3, 3, 1, api.OK}, {3, 3, 3, api.OK},
		{2, 4, 4, api.OK}, {2, 4, 3, api.OK}, {4, 4, 4, api.OK}, {6, 6, 6, api.OK}, {6, 6, 5, api.OK}, {5, 6, 5, api.OK}, {6, 6, 9, api.OK}, {8, 8, 8, api.OK}, {8, 8, 5, api.OK}, {11, 12, 12, api.OK},
		{1, 7, 7, api.ErrNone}, {7, 7, 7, api.ErrNone}, {1, 9, 9, api.ErrNone}, {9, 1, 1, api.ErrNone}, {1, 0, 1, api.ErrNone}, {0, 1, 1, api.ErrNone}, {0, 0, 0, api.ErrNone}, {-1, -1, -1, api.ErrNone},
		{1, 4, 4, api.ErrPerm}, {2, 1, 2, api.ErrPerm}, {2, 3, 3, api.ErrPerm}, {4, 2, 1, api.ErrPerm}, {3, 2, 2, api.ErrPerm}, // neither it nor its child
		{1, 5, 5, api.ErrPerm}, {1, 8, 8, api.ErrPerm}, {1, 8, 1, api.ErrPerm}, {1, 8, 9, api.ErrPerm}, {6, 10, 10, api.ErrPerm}, // in another session
		{1, 1, 1, api.ErrPerm}, {1, 1, 3, api.ErrPerm}, {5, 5, 5, api.ErrPerm}, {10, 10, 10, api.ErrPerm}, // a session's first one
		{1, 2, 5, api.ErrPerm}, {1, 2, 7, api.ErrPerm}, {1, 2, 9, api.ErrPerm}, {1, 2, 4, api.ErrPerm}, {1, 2, 77, api.ErrPerm}, {1, 2, -1, api.ErrPerm}, {2, 4, 2, api.ErrPerm}, {6, 6, 1, api.ErrPerm}, {6, 6, 10, api.ErrPerm}, {1, 2, math.MinInt, api.ErrPerm}, {1, 2, math.MaxInt, api.ErrPerm}, {1, 2, 1<<32 + 2, api.ErrPerm}, // there is no such group
	} {
		c := call{name: "SetGroup", pid: y.pid, target: y.target, group: y.group}
		if y.e != api.OK {
			answersError(t, x, c, y.e)
			continue
		}
		p, _ := table.Get(x, y.target)
		p.Group = y.group
		if a := c.of(x); !sameAnswer(a, answer{table: table.Set(x, p)}) {
			t.Errorf("%v: %v", y, a)
		}
	}
}

// P20.5: a group whose processes are all zombies isn't there any more; one of a process of no known state is.
func TestSetGroupOfTheDead(t *testing.T) {
	for _, state := range []int{runs, stopped, zombie, 0, 4} {
		x := of(row(1, 0, 1, 1, runs), row(2, 1, 1, 1, runs), row(3, 1, 3, 1, state))
		want := api.OK
		if state == zombie {
			want = api.ErrPerm
		}
		if _, e := table.SetGroup(x, 1, 2, 3); e != want {
			t.Error(state, e)
		}
	}
}

// P20.5: a new session, unless there is a group of that number, in whatever session.
func TestSetSession(t *testing.T) {
	child := row(2, 1, 1, 1, runs)
	child.Mask, child.Pending, child.Status, child.Told = 5, 6, 7, true
	for _, x := range []struct {
		other table.Proc
		e     api.Errno
	}{
		{row(3, 1, 1, 1, runs), api.OK}, {row(3, 1, 3, 2, runs), api.OK}, {row(3, 2, -2, 2, runs), api.OK}, {row(3, 1, 2, 1, zombie), api.OK},
		{row(3, 1, 2, 1, runs), api.ErrPerm}, {row(3, 1, 2, 3, stopped), api.ErrPerm}, {row(3, 1, 2, 9, 0), api.ErrPerm},
	} {
		y := of(row(1, 0, 1, 1, runs), child, x.other)
		c := call{name: "SetSession", pid: 2}
		if x.e != api.OK {
			answersError(t, y, c, x.e)
			continue
		}
		want := child
		want.Group, want.Session = 2, 2
		if a := c.of(y); !sameAnswer(a, answer{table: of(row(1, 0, 1, 1, runs), want, x.other)}) {
			t.Errorf("%v: %v", x, a)
		}
	}
	answersError(t, of(row(1, 0, 1, 1, runs)), call{name: "SetSession", pid: 1}, api.ErrPerm)
	answersError(t, of(row(1, 0, 1, 5, runs)), call{name: "SetSession", pid: 1}, api.ErrPerm)
	if x, e := table.SetSession(of(row(1, 0, 2, 1, runs)), 1); !sameTable(x, of(row(1, 0, 1, 1, runs))) || e != api.OK {
		t.Error(x, e)
	}
}

// P20.6: a group's processes that live, whatever their sessions, rising.
func TestMembers(t *testing.T) {
	x := of(row(1, 0, 1, 1, runs), row(2, 0, 5, 1, stopped), row(3, 0, 5, 1, zombie), row(4, 0, 1, 4, runs), row(5, 0, 5, 2, 0), row(6, 0, 0, 1, runs), row(7, 0, -5, 1, runs), row(8, 0, 8, 1, zombie), row(9, 0, 1, 1, 4), row(10, 0, math.MinInt, 1, runs))
	for group, want := range map[int][]int{1: {1, 4, 9}, 5: {2, 5}, 0: {6}, -5: {7}, math.MinInt: {10}} {
		if l := table.Members(x, group); !slices.Equal(l, want) {
			t.Errorf("%d: %v, not %v", group, l, want)
		}
	}
	for _, group := range []int{2, 3, 8, 10, 11, -1, math.MaxInt, 1<<32 + 1} {
		if l := table.Members(x, group); len(l) > 0 {
			t.Errorf("%d: %v", group, l)
		}
		if l := table.Members(table.Table{Next: 1}, group); len(l) > 0 {
			t.Errorf("%d: %v", group, l)
		}
	}
}

// P20.6: a group isn't orphaned if a parent of one of its processes that live lives, is in the same session and in another group.
func TestOrphaned(t *testing.T) {
	for i, y := range []struct {
		parent, child table.Proc
		orphaned      bool
	}{
		{row(1, 0, 1, 1, runs), row(2, 1, 2, 1, runs), false},
		{row(1, 0, 1, 1, stopped), row(2, 1, 2, 1, stopped), false},
		{row(1, 0, 1, 1, 0), row(2, 1, 2, 1, 4), false},
		{row(1, 0, 7, 9, runs), row(2, 1, 2, 9, runs), false},
		{row(1, 0, 0, 0, runs), row(2, 1, 2, 0, runs), false},
		{row(1, 0, 1, 1, zombie), row(2, 1, 2, 1, runs), true},   // the parent doesn't live
		{row(1, 0, 1, 2, runs), row(2, 1, 2, 1, runs), true},     // it is in another session
		{row(1, 0, 1, 1, runs), row(2, 1, 2, 2, runs), true},     // it is in another session
		{row(1, 0, 2, 1, runs), row(2, 1, 2, 1, runs), true},     // it is in the same group
		{row(1, 0, 1, 1, runs), row(2, 0, 2, 1, runs), true},     // there is none
		{row(1, 0, 1, 1, runs), row(2, 9, 2, 1, runs), true},     // there is none
		{row(1, 0, 1, 1, runs), row(2, 2, 2, 1, runs), true},     // it is its own
		{row(1, 0, 1, 1, runs), row(2, 1, 2, 1, zombie), true},   // nobody lives in it
		{row(1, 2, 1, 1, runs), row(2, 0, 3, 1, runs), true},     // nobody is in it
		{row(1, 2, 1, 1, runs), row(2, 0, 2, 1, runs), true},     // one in it sees to another group
		{row(1, 2, 2, 1, runs), row(2, 1, 2, 1, runs), true},     // they are in one group
		{row(1, 0, 1, 1, runs), row(2, -1, 2, 1, stopped), true}, // there is none
	} {
		for _, more := range [][]table.Proc{nil, {row(3, 0, 2, 1, runs)}, {row(3, 1, 2, 1, zombie)}, {row(3, 1, 3, 1, runs), row(4, 2, 4, 2, runs)}} {
			if got := table.Orphaned(of(append([]table.Proc{y.parent, y.child}, more...)...), 2); got != y.orphaned {
				t.Errorf("%d, %v: %t", i, more, got)
			}
		}
		if table.Orphaned(of(y.parent, y.child, row(3, 4, 2, 8, runs), row(4, 0, 4, 8, runs)), 2) {
			t.Errorf("%d: another one is seen to", i)
		}
	}
}

// P20.6: a group in which there is nobody has nobody to see to it.
func TestOrphanedEmpty(t *testing.T) {
	for _, group := range append(edges(), 1, 2, 3) {
		if !table.Orphaned(table.Table{Next: 1}, group) || !table.Orphaned(of(row(1, 0, 5, 1, runs), row(2, 1, 3, 1, zombie)), group) {
			t.Error(group)
		}
	}
}

// wrongTables is tables that aren't right, for one reason each.
func wrongTables() map[string]table.Table {
	a, b := row(1, 0, 1, 1, runs), row(2, 1, 1, 1, runs)
	l := map[string]table.Table{
		"nothing": {}, "Next below 0": {Next: -1}, "the least Next": {Next: math.MinInt}, "processes and Next 0": {Procs: []table.Proc{a}},
		"a number that is Next": {Procs: []table.Proc{a, b}, Next: 2}, "a number above Next": {Procs: []table.Proc{a, b, row(9, 1, 1, 1, runs)}, Next: 5}, "numbers above Next, and one below": {Procs: []table.Proc{a, row(7, 0, 7, 7, runs), row(8, 7, 7, 7, runs)}, Next: 7},
		"a number 0":     {Procs: []table.Proc{row(0, 0, 0, 0, runs), a, b}, Next: 3},
		"a number below": {Procs: []table.Proc{row(-1, 0, -1, -1, runs), a, b}, Next: 3}, "the least number": {Procs: []table.Proc{row(math.MinInt, 0, 1, 1, runs), a, b}, Next: 3},
		"a number twice": {Procs: []table.Proc{a, b, b}, Next: 3}, "the first twice": {Procs: []table.Proc{a, a, b}, Next: 3}, "numbers that fall": {Procs: []table.Proc{b, a}, Next: 3}, "a last one that falls": {Procs: []table.Proc{a, row(3, 1, 1, 1, runs), b}, Next: 4},
		"too many": full(most + 1), "far too many": full(9 * most), "too many by 0": {Procs: slices.Repeat([]table.Proc{a}, 33), Next: 2},
		"the greatest number": {Procs: []table.Proc{a, b, row(math.MaxInt, 1, 1, 1, runs)}, Next: math.MaxInt},
	}
	return l
}

// P20.1 to P20.6: of a table that isn't right no call answers anything, whatever it is asked.
func TestWrongTables(t *testing.T) {
	m := newMaker(204)
	for why, x := range wrongTables() {
		for _, name := range names {
			for range 100 {
				c := m.call(x)
				c.name = name
				want := answer{table: x, e: api.ErrForm}
				if slices.Contains([]string{"Get", "Live", "Set", "Members", "Orphaned"}, name) {
					want = answer{}
				}
				if a := c.of(x); !sameAnswer(a, want) {
					t.Fatalf("%s: %s of %v: %v", why, name, c, a)
				}
			}
		}
	}
}

// The tables that are right by the least.
func TestRightTables(t *testing.T) {
	most := full(most)
	for i, x := range []table.Table{{Next: 1}, {Next: math.MaxInt}, of(row(1, 0, 1, 1, runs)), {Procs: []table.Proc{row(4, 0, 1, 1, runs)}, Next: 5}, {Procs: []table.Proc{row(math.MaxInt-1, 0, 1, 1, runs)}, Next: math.MaxInt}, most, {Procs: most.Procs, Next: 99}} {
		if !sameTable(table.Set(x, table.Proc{}), x) || !table.Orphaned(x, -9) {
			t.Error(i)
		}
		if _, e := table.Exec(x, -9, 0); e != api.ErrNone {
			t.Error(i, e)
		}
		for _, p := range x.Procs {
			if got, ok := table.Get(x, p.Pid); got != p || !ok || !table.Live(x, p.Pid) {
				t.Error(i, got)
			}
		}
	}
}

// P20.1 to P20.6: any call of any table, right ones that no calls make among them, held against the document's words.
func TestAnyCall(t *testing.T) {
	m := newMaker(205)
	found := map[string]int{}
	for range 100000 {
		x := m.table()
		c := m.call(x)
		a := answers(t, x, c)
		found[fmt.Sprint(c.name, " ", a.e)]++
		if !rightOf(x) || a.table.Next != 0 && !rightOf(a.table) {
			t.Fatalf("%s of %v: %v isn't right any more", c.name, x, a.table)
		}
	}
	for _, want := range []string{"Spawn 0", "Spawn 10", "Fork 0", "Fork 8", "Fork 10", "Exec 0", "Exec 8", "End 0", "End 8", "Wait 0", "Wait 8", "Wait 10", "Wait 13", "SetGroup 0", "SetGroup 8", "SetGroup 12", "SetSession 0", "SetSession 8", "SetSession 12"} {
		if found[want] < 100 {
			t.Errorf("%s: %d times alone", want, found[want])
		}
	}
}
