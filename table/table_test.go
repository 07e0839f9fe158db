package table_test

import (
	"math"
	"slices"
	"testing"

	"parlour/api"
	"parlour/sigset"
	"parlour/table"
)

// row is a process by its number, its parent's, its group's and session's, and what it is doing.
func row(pid, parent, group, session, state int) table.Proc {
	return table.Proc{Pid: pid, Parent: parent, Group: group, Session: session, State: state}
}

// of is a table of some processes, the number behind the last one's the next.
func of(l ...table.Proc) table.Table {
	t := table.Table{Procs: l, Next: 1}
	if len(l) > 0 {
		t.Next = l[len(l)-1].Pid + 1
	}
	return t
}

// full is a table of so many processes, each a session of its own.
func full(n int) table.Table {
	var l []table.Proc
	for pid := 1; pid <= n; pid++ {
		l = append(l, row(pid, 0, pid, pid, runs))
	}
	return of(l...)
}

// holds checks what is in a table.
func holds(t *testing.T, got table.Table, next int, want ...table.Proc) {
	t.Helper()
	if !sameTable(got, table.Table{Procs: want, Next: next}) {
		t.Errorf("%v, not %v, %d", got, want, next)
	}
}

// The numbers of the document.
func TestNames(t *testing.T) {
	l := []int{table.Runs, table.Stopped, table.Zombie, table.NoHang, table.Untraced, table.ByExit, table.BySig, table.ByCore, table.ByStop, api.MaxProcs, api.SIGCHLD, sigset.Ignore, sigset.Catch}
	if want := []int{runs, stopped, zombie, noHang, untraced, 0, 1000, 2000, 3000, most, chld, ignore, catch}; !slices.Equal(l, want) {
		t.Error(l, want)
	}
}

// The document's examples.
func TestExamples(t *testing.T) {
	x, a, e := table.Spawn(table.Table{Next: 1}, 0)
	if a != 1 || e != api.OK {
		t.Error(a, e)
	}
	x, b, e := table.Fork(x, 1, 0)
	if p, _ := table.Get(x, 2); b != 2 || p.Group != 1 || e != api.OK {
		t.Error(b, p, e)
	}
	x, e = table.End(x, 2, 3)
	if p, _ := table.Get(x, 1); !p.Pending.Has(chld) || e != api.OK {
		t.Error(p, e)
	}
	x, pid, status, e := table.Wait(x, 1, 0)
	if pid != 2 || status != 3 || e != api.OK {
		t.Error(pid, status, e)
	}
	x, e = table.End(x, 1, 0)
	holds(t, x, 3)
	if e != api.OK {
		t.Error(e)
	}
}

// P20.1: a process by its number, and whether it lives, whatever it is doing.
func TestGetAndLive(t *testing.T) {
	var l []table.Proc
	for i, state := range []int{runs, stopped, zombie, 0, -1, -3, 4, 1<<32 + 3, math.MinInt, math.MaxInt} {
		l = append(l, row(3*i+2, 0, i, -i, state))
	}
	x := of(l...)
	for i, p := range l {
		got, ok := table.Get(x, 3*i+2)
		if got != p || !ok || table.Live(x, 3*i+2) != (i != 2) {
			t.Errorf("%d: %v, %t", 3*i+2, got, ok)
		}
		for _, beside := range []int{3*i + 1, 3*i + 3, -3*i - 2, 3*i + 2 + 1<<32} {
			if got, ok := table.Get(x, beside); got != (table.Proc{}) || ok || table.Live(x, beside) {
				t.Errorf("%d: %v, %t", beside, got, ok)
			}
		}
	}
	for _, pid := range append(edges(), x.Next) {
		for _, x := range []table.Table{x, {Next: 1}, {Next: math.MaxInt}} {
			if got, ok := table.Get(x, pid); got != (table.Proc{}) || ok || table.Live(x, pid) {
				t.Errorf("%d: %v, %t", pid, got, ok)
			}
		}
	}
}

// P20.1: a process takes the place of the one of its number, whatever it says; one of a number that there isn't takes none.
func TestSet(t *testing.T) {
	a, b, c := row(2, 0, 2, 2, runs), row(5, 2, 2, 2, stopped), row(6, 2, 6, 2, zombie)
	x := of(a, b, c)
	m := newMaker(201)
	for range 200 {
		p := m.proc(x)
		p.Pid = 5
		holds(t, table.Set(x, p), 7, a, p, c)
		p.Pid = 2
		holds(t, table.Set(x, p), 7, p, b, c)
		p.Pid = 6
		holds(t, table.Set(x, p), 7, a, b, p)
		for _, pid := range append(edges(), 1, 3, 4, 7, 8) {
			p.Pid = pid
			holds(t, table.Set(x, p), 7, a, b, c)
		}
	}
	holds(t, table.Set(x, table.Proc{Pid: 5}), 7, a, table.Proc{Pid: 5}, c)
	holds(t, table.Set(table.Table{Next: 3}, row(2, 0, 2, 2, runs)), 3)
}

// P20.2: a session's first process, of the next number, behind the others, whatever the program's number.
func TestSpawn(t *testing.T) {
	for _, prog := range append(edges(), 1, 31, 32) {
		p := row(1, 0, 1, 1, runs)
		p.Prog = prog
		x, pid, e := table.Spawn(table.Table{Next: 1}, prog)
		if holds(t, x, 2, p); pid != 1 || e != api.OK {
			t.Error(pid, e)
		}
	}
	a, b := row(3, 9, 4, 5, zombie), row(7, 3, 5, 5, stopped)
	x, pid, e := table.Spawn(table.Table{Procs: []table.Proc{a, b}, Next: 40}, 0)
	if holds(t, x, 41, a, b, row(40, 0, 40, 40, runs)); pid != 40 || e != api.OK {
		t.Error(pid, e)
	}
}

// P20.2: a child has its parent's group, session, mask and actions, and nothing else of it, whether that runs or is stopped.
func TestFork(t *testing.T) {
	m := newMaker(202)
	for range 300 {
		x := m.table()
		for _, p := range x.Procs {
			if p.State == zombie || len(x.Procs) == most {
				continue
			}
			want := table.Proc{Pid: x.Next, Parent: p.Pid, Group: p.Group, Session: p.Session, State: runs, Prog: 6, Mask: p.Mask, Acts: p.Acts}
			got, pid, e := table.Fork(x, p.Pid, 6)
			if holds(t, got, x.Next+1, append(slices.Clone(x.Procs), want)...); pid != x.Next || e != api.OK {
				t.Fatal(pid, e)
			}
		}
	}
	x, pid, e := table.Fork(of(row(1, 0, 4, 5, stopped)), 1, math.MinInt)
	want := row(2, 1, 4, 5, runs)
	want.Prog = math.MinInt
	if holds(t, x, 3, row(1, 0, 4, 5, stopped), want); pid != 2 || e != api.OK {
		t.Error(pid, e)
	}
}

// P20.2: there are so many processes and no more, zombies among them; who doesn't live is told ahead of it.
func TestTooMany(t *testing.T) {
	for n := range most + 1 {
		x := full(n)
		if n > 2 {
			x.Procs[2].State, x.Procs[2].Parent = zombie, 1
		}
		want, next := api.OK, n+1
		if n == most {
			want, next = api.ErrAgain, 0
		}
		y, pid, e := table.Spawn(x, 0)
		if e != want || pid != next || e != api.OK && !sameTable(x, y) {
			t.Errorf("Spawn beside %d: %d, error %d", n, pid, e)
		}
		if n == 0 {
			continue
		}
		y, pid, e = table.Fork(x, 1, 0)
		if e != want || pid != next || e != api.OK && !sameTable(x, y) {
			t.Errorf("Fork beside %d: %d, error %d", n, pid, e)
		}
		for _, pid := range []int{3, n + 1, 0, -1} {
			if n > 2 {
				answersError(t, x, call{name: "Fork", pid: pid}, api.ErrNone)
			}
		}
	}
	x, e := table.End(full(most), 9, 0)
	if _, pid, e := table.Spawn(x, 0); pid != most+1 || e != api.OK {
		t.Error(pid, e)
	}
	if e != api.OK {
		t.Error(e)
	}
}

// answersError checks that a call answers an error, and beside it the table that was handed in, and nothing else.
func answersError(t *testing.T, x table.Table, c call, e api.Errno) {
	t.Helper()
	if a := c.of(x); !sameAnswer(a, answer{table: x, e: e}) {
		t.Errorf("%s of %v, %v: %v, not error %d", c.name, x, c, a, e)
	}
}

// who is the calls of a process.
var who = []string{"Fork", "Exec", "End", "Wait", "SetGroup", "SetSession"}

// P20.2 to P20.5: who isn't there, or is a zombie, does nothing.
func TestNone(t *testing.T) {
	x := of(row(2, 0, 2, 2, runs), row(4, 2, 2, 2, zombie), row(5, 4, 2, 2, runs), row(6, 2, 2, 2, runs))
	for _, name := range who {
		for _, pid := range append(edges(), 1, 3, 4, 7, 8) {
			for _, n := range []int{0, noHang, untraced} {
				answersError(t, x, call{name: name, pid: pid, target: 6, group: 2, n: n}, api.ErrNone)
				answersError(t, x, call{name: name, pid: pid, target: pid, group: pid, n: n}, api.ErrNone)
				answersError(t, table.Table{Next: 3}, call{name: name, pid: pid, target: 6, group: 2, n: n}, api.ErrNone)
			}
			answersError(t, x, call{name: "SetGroup", pid: 2, target: pid, group: 2}, api.ErrNone)
		}
	}
}

// P20.2: another program begins at its first operation; what was caught is done by itself again, all else stays.
func TestExec(t *testing.T) {
	m := newMaker(203)
	for range 300 {
		p := m.proc(of(row(2, 0, 2, 2, runs)))
		p.Pid, p.State = 2, []int{runs, stopped, 0}[m.Intn(3)]
		want := p
		want.Prog, want.At = 9, 0
		for i, how := range p.Acts {
			if how == catch {
				want.Acts[i] = 0
			}
		}
		other := m.proc(of(row(2, 0, 2, 2, runs)))
		other.Pid = 3
		x, e := table.Exec(of(p, other), 2, 9)
		if holds(t, x, 4, want, other); e != api.OK {
			t.Error(e)
		}
	}
}

// P20.2: each action alone.
func TestExecActions(t *testing.T) {
	for i := range 32 {
		for how := -2; how < 6; how++ {
			p := row(1, 0, 1, 1, runs)
			p.Acts[i] = how
			x, e := table.Exec(of(p), 1, -7)
			p.Prog = -7
			if how == catch {
				p.Acts[i] = 0
			}
			if holds(t, x, 2, p); e != api.OK {
				t.Error(e)
			}
		}
	}
}

// P20.3: one that ended is a zombie with its status, nothing is pending of it, and its parent has SIGCHLD pending, whether it is blocked or not.
func TestEnd(t *testing.T) {
	for _, status := range append(edges(), 0, 3, 1009, 2003, 3020) {
		for _, state := range []int{runs, stopped, 0, 4} {
			a, b, c := row(1, 0, 1, 1, state), row(2, 1, 2, 1, state), row(3, 1, 2, 1, runs)
			a.Mask, a.Pending, a.Acts[chld] = 1<<chld, 1<<2|1<<40, []int{0, catch, 3, -1}[max(0, status)%4]
			b.Pending, b.Mask, b.Told, b.At, b.Prog, b.Acts[chld] = 1<<9|1<<chld|1, 6, true, 5, 4, ignore
			wantA, wantB := a, b
			wantA.Pending |= 1 << chld
			wantB.State, wantB.Status, wantB.Pending = zombie, status, 0
			x, e := table.End(of(a, b, c), 2, status)
			if holds(t, x, 4, wantA, wantB, c); e != api.OK {
				t.Error(e)
			}
		}
	}
}

// P20.3: children of one that ended have no parent any more, and those that are zombies are gone; other processes stay as they are.
func TestEndChildren(t *testing.T) {
	x := of(row(1, 0, 1, 1, runs), row(2, 1, 1, 1, runs), row(3, 2, 1, 1, runs), row(4, 2, 1, 1, stopped), row(5, 2, 1, 1, zombie), row(6, 3, 1, 1, zombie), row(7, 3, 1, 1, runs))
	y, e := table.End(x, 2, 5)
	a, b := row(1, 0, 1, 1, runs), row(2, 1, 1, 1, zombie)
	a.Pending, b.Status = 1<<chld, 5
	if holds(t, y, 8, a, b, row(3, 0, 1, 1, runs), row(4, 0, 1, 1, stopped), row(6, 3, 1, 1, zombie), row(7, 3, 1, 1, runs)); e != api.OK {
		t.Error(e)
	}
	y, e = table.End(y, 3, 6)
	if holds(t, y, 8, a, b, row(4, 0, 1, 1, stopped), row(7, 0, 1, 1, runs)); e != api.OK {
		t.Error(e)
	}
	y, e = table.End(y, 1, 7)
	if holds(t, y, 8, row(4, 0, 1, 1, stopped), row(7, 0, 1, 1, runs)); e != api.OK {
		t.Error(e)
	}
}

// P20.3: who is told of nobody: a parent that there isn't, or that ignores SIGCHLD, which is pending of it all the same.
func TestFreed(t *testing.T) {
	for _, parent := range append(edges(), 2, 9) {
		x, e := table.End(of(row(1, 0, 1, 1, runs), row(3, parent, 1, 1, runs)), 3, 0)
		if holds(t, x, 4, row(1, 0, 1, 1, runs)); e != api.OK {
			t.Error(parent, e)
		}
	}
	for how := -2; how < 6; how++ {
		a, b := row(1, 0, 1, 1, runs), row(2, 1, 1, 1, runs)
		a.Acts[chld] = how
		x, e := table.End(of(a, b), 2, 0)
		a.Pending = 1 << chld
		want := []table.Proc{a, row(2, 1, 1, 1, zombie)}
		if how == ignore {
			want = want[:1]
		}
		if holds(t, x, 3, want...); e != api.OK {
			t.Error(how, e)
		}
	}
}

// P20.3: the parent that is a zombie isn't sent anything; if it ignores SIGCHLD its children are gone, if not they stay.
func TestFreedOfZombies(t *testing.T) {
	for _, how := range []int{0, ignore, catch} {
		a, b, c := row(1, 0, 1, 1, runs), row(2, 1, 1, 1, zombie), row(3, 2, 1, 1, runs)
		b.Acts[chld] = how
		x, e := table.End(of(a, b, c), 3, 0)
		want := []table.Proc{a, b, row(3, 2, 1, 1, zombie)}
		if how == ignore {
			want = want[:2]
		}
		if holds(t, x, 4, want...); e != api.OK {
			t.Error(how, e)
		}
	}
}

// P20.3: processes are freed until none is left that may be, wherever they stand, by any one that ends.
func TestFreedInTurn(t *testing.T) {
	x := of(row(1, 3, 1, 1, zombie), row(2, 1, 1, 1, zombie), row(3, 5, 1, 1, zombie), row(4, 2, 1, 1, zombie), row(5, 8, 1, 1, zombie), row(6, 6, 1, 1, zombie), row(7, 2, 1, 1, runs), row(9, 7, 1, 1, zombie), row(10, 0, 1, 1, runs))
	y, e := table.End(x, 10, 0)
	if holds(t, y, 11, row(6, 6, 1, 1, zombie), row(7, 2, 1, 1, runs), row(9, 7, 1, 1, zombie)); e != api.OK {
		t.Error(e)
	}
	y, e = table.End(y, 7, 0)
	if holds(t, y, 11, row(6, 6, 1, 1, zombie)); e != api.OK {
		t.Error(e)
	}
}

// P20.3: one that is its own parent is its own child, too: it has no parent then.
func TestEndOfItself(t *testing.T) {
	x, e := table.End(of(row(1, 1, 1, 1, runs), row(2, 0, 2, 2, runs)), 1, 0)
	if holds(t, x, 3, row(2, 0, 2, 2, runs)); e != api.OK {
		t.Error(e)
	}
}

// family is a parent with a child of each kind, two of those that may be told, and one of somebody else ahead of them.
func family() table.Table {
	x := of(row(1, 0, 1, 1, runs), row(2, 9, 1, 1, zombie), row(3, 1, 1, 1, stopped), row(4, 1, 1, 1, runs), row(5, 1, 1, 1, stopped), row(6, 1, 1, 1, zombie), row(7, 1, 1, 1, stopped), row(8, 1, 1, 1, zombie), row(9, 0, 1, 1, runs))
	for i := range x.Procs {
		x.Procs[i].Status = 100 + i
	}
	x.Procs[2].Told = true
	return x
}

// hows is ways to wait: with each bit, or none, of numbers that say more; and whether they have them.
func hows() map[int][2]bool {
	return map[int][2]bool{
		0: {false, false}, 1: {true, false}, 2: {false, true}, 3: {true, true}, 4: {false, false}, 5: {true, false}, 6: {false, true}, 7: {true, true},
		-1: {false, false}, -2: {false, false}, -3: {false, false}, -4: {false, false}, math.MinInt: {false, false}, math.MinInt + 1: {false, false}, math.MinInt + 2: {false, false}, math.MinInt + 3: {false, false},
		math.MaxInt: {true, true}, math.MaxInt - 1: {false, true}, math.MaxInt - 2: {true, false}, math.MaxInt - 3: {false, false}, 1 << 32: {false, false}, 1<<32 + 1: {true, false}, 1<<62 + 2: {false, true},
	}
}

// P20.4: in order, the zombies, those that stopped, and then nobody; by each way to wait.
func TestWait(t *testing.T) {
	for how, has := range hows() {
		noHang, untraced := has[0], has[1]
		x := family()
		told := []int{6, 8}
		if untraced {
			told = append(told, 5, 7)
		}
		for _, want := range told {
			y, pid, status, e := table.Wait(x, 1, how)
			if pid != want || status != 99+want || e != api.OK {
				t.Fatalf("%d: %d, %d, error %d, not %d", how, pid, status, e, want)
			}
			p, there := table.Get(y, pid)
			if before, _ := table.Get(x, pid); there != (before.State == stopped) || there && (!p.Told || before.Told) {
				t.Fatalf("%d: %v, %t", how, p, there)
			}
			before, _ := table.Get(x, pid)
			before.Told = true
			want := slices.DeleteFunc(table.Set(x, before).Procs, func(p table.Proc) bool { return p.Pid == pid && p.State == zombie })
			holds(t, y, x.Next, want...)
			x = y
		}
		want := api.ErrAgain
		if noHang {
			want = api.OK
		}
		answersError(t, x, call{name: "Wait", pid: 1, n: how}, want)
	}
}

// P20.4: one that has no children, whatever else there is, and one whose children have nothing to be told.
func TestWaitForNobody(t *testing.T) {
	for how, has := range hows() {
		x := of(row(1, 0, 1, 1, runs), row(2, 1, 1, 1, stopped), row(3, 0, 1, 1, zombie), row(4, -1, 1, 1, zombie))
		x.Procs[1].Told = true
		answersError(t, x, call{name: "Wait", pid: 2, n: how}, api.ErrChild)
		want := api.ErrAgain
		if has[0] {
			want = api.OK
		}
		answersError(t, x, call{name: "Wait", pid: 1, n: how}, want)
		for _, state := range []int{runs, 0, 4, -3} {
			x.Procs[1].State, x.Procs[1].Told = state, false
			answersError(t, x, call{name: "Wait", pid: 1, n: how}, want)
			x.Procs[1].Told = true
			answersError(t, x, call{name: "Wait", pid: 1, n: how}, want)
		}
	}
}

// P20.4: a stopped one may wait, too; a zombie that was told stays one, whether it was told that it stopped or not; children that a zombie has stay.
func TestWaitMore(t *testing.T) {
	a, b, c := row(1, 0, 1, 1, stopped), row(2, 1, 1, 1, zombie), row(3, 2, 1, 1, zombie)
	b.Told, b.Status = true, -5
	x, pid, status, e := table.Wait(of(a, b, c), 1, 0)
	if holds(t, x, 4, a, c); pid != 2 || status != -5 || e != api.OK {
		t.Error(pid, status, e)
	}
	own := row(1, 1, 1, 1, stopped)
	own.Status = 3019
	x, pid, status, e = table.Wait(of(own), 1, untraced)
	own.Told = true
	if holds(t, x, 2, own); pid != 1 || status != 3019 || e != api.OK {
		t.Error(pid, status, e)
	}
}
