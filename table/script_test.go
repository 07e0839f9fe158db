package table_test

import (
	"slices"
	"testing"

	"parlour/api"
	"parlour/table"
)

// history is what was told of processes through a script.
type history struct {
	given map[int]bool // numbers that were given
	ended map[int]int  // processes that ended, with their statuses
	told  map[int]bool // zombies that a wait told
}

// see takes down what a call did, and checks what may be told once alone.
func (h history) see(t *testing.T, before table.Table, c call, a answer) {
	t.Helper()
	if a.e != api.OK {
		return
	}
	switch c.name {
	case "Spawn", "Fork":
		if h.given[a.pid] {
			t.Fatalf("%d is given twice", a.pid)
		}
		h.given[a.pid] = true
	case "End":
		h.ended[c.pid] = c.n
	case "Wait":
		p, _ := table.Get(before, a.pid)
		status, ended := h.ended[a.pid]
		if p.State != zombie {
			return
		}
		if !ended || h.told[a.pid] || status != a.n || p.Parent != c.pid {
			t.Fatalf("%d: %d is told %d, who ended with %d", c.pid, a.pid, a.n, status)
		}
		h.told[a.pid] = true
	}
}

// holdsTogether checks what P20.7 says of each table that calls made.
func holdsTogether(t *testing.T, x table.Table) {
	t.Helper()
	if !rightOf(x) {
		t.Fatalf("%v isn't right", x)
	}
	for _, p := range x.Procs {
		parent, there := table.Get(x, p.Parent)
		if p.Parent != 0 && (!there || parent.State == zombie) {
			t.Fatalf("%d is a child of one that ended: %v", p.Pid, x)
		}
		if p.State == zombie && p.Parent == 0 {
			t.Fatalf("%d is told to nobody: %v", p.Pid, x)
		}
	}
}

// change has a process stopped, run on, or do something else with SIGCHLD, as other layers do it.
func (m maker) change(x table.Table) table.Proc {
	if len(x.Procs) == 0 {
		return table.Proc{}
	}
	p := x.Procs[m.Intn(len(x.Procs))]
	if p.State == zombie {
		return p
	}
	p.State = runs + m.Intn(2)
	p.Told = p.Told && p.State == stopped
	p.Status = 3000 + 19 + m.Intn(4)
	if m.Intn(20) == 0 {
		p.Acts[chld] = m.Intn(3)
	}
	return p
}

// step is a call of a script: any one, but that there are more forks, ends, and waits of those that have children.
func (m maker) step(x table.Table) call {
	c := m.call(x)
	if c.name == "Set" || c.name == "End" && len(x.Procs) < 4 {
		return call{name: "Set", p: m.change(x)}
	}
	if c.name == "Spawn" && len(x.Procs) > 6 {
		c.name = "End"
	}
	if c.name == "Wait" && len(x.Procs) > 0 {
		c.pid = x.Procs[m.Intn(len(x.Procs))].Parent
	}
	if slices.Contains([]string{"Get", "Live", "Orphaned"}, c.name) && m.Intn(2) == 0 {
		c.name = "Fork"
	}
	return c
}

// P20.7: scripts of calls from a table without processes on: numbers are given once, zombies told once, and who ended has no children.
func TestScripts(t *testing.T) {
	m := newMaker(207)
	waits := 0
	for range 100 {
		x := table.Table{Next: 1 + m.Intn(3)}
		h := history{map[int]bool{}, map[int]int{}, map[int]bool{}}
		for range 400 {
			c := m.step(x)
			a := answers(t, x, c)
			h.see(t, x, c, a)
			if !slices.Contains([]string{"Get", "Live", "Members", "Orphaned"}, c.name) {
				x = a.table
			}
			holdsTogether(t, x)
		}
		waits += len(h.told)
	}
	if waits < 500 {
		t.Errorf("%d zombies alone were told", waits)
	}
}

// P20.7: a zombie stays until it is told, whatever else ends, stops, or waits, and is told by one wait alone.
func TestToldOnce(t *testing.T) {
	x, a, _ := table.Spawn(table.Table{Next: 1}, 0)
	x, b, _ := table.Spawn(x, 0)
	x, child, _ := table.Fork(x, a, 0)
	x, other, _ := table.Fork(x, b, 0)
	x, _ = table.End(x, child, 7)
	x, _ = table.End(x, other, 8)
	for _, pid := range []int{child, other} {
		if _, ok := table.Get(x, pid); !ok || table.Live(x, pid) {
			t.Errorf("%d is gone", pid)
		}
		if _, e := table.End(x, pid, 0); e != api.ErrNone {
			t.Errorf("%d ends twice", pid)
		}
	}
	y, pid, status, e := table.Wait(x, a, noHang)
	if pid != child || status != 7 || e != api.OK {
		t.Error(pid, status, e)
	}
	if _, _, _, e := table.Wait(y, a, noHang); e != api.ErrChild {
		t.Error(e)
	}
	if _, next, _ := table.Spawn(y, 0); next != 5 {
		t.Errorf("%d is given", next)
	}
	if _, pid, status, e := table.Wait(y, b, 0); pid != other || status != 8 || e != api.OK {
		t.Error(pid, status, e)
	}
}

// P20.7: one that stopped is told once each time, and its end then all the same.
func TestToldStopped(t *testing.T) {
	x, a, _ := table.Spawn(table.Table{Next: 1}, 0)
	x, child, _ := table.Fork(x, a, 0)
	for round := range 3 {
		p, _ := table.Get(x, child)
		p.State, p.Status, p.Told = stopped, 3020+round, false
		x = table.Set(x, p)
		var pid, status int
		var e api.Errno
		x, pid, status, e = table.Wait(x, a, untraced|noHang)
		if pid != child || status != 3020+round || e != api.OK {
			t.Error(pid, status, e)
		}
		if _, pid, status, e = table.Wait(x, a, untraced|noHang); pid != 0 || status != 0 || e != api.OK {
			t.Error(pid, status, e)
		}
	}
	x, _ = table.End(x, child, 1009)
	if _, pid, status, e := table.Wait(x, a, untraced); pid != child || status != 1009 || e != api.OK {
		t.Error(pid, status, e)
	}
}

// roomy is a table with spare room behind its processes, and all of that memory.
func roomy(x table.Table) (table.Table, []table.Proc) {
	memory := append(slices.Clone(x.Procs), row(77, 7, 7, 7, 7), row(78, 8, 8, 8, 8), row(79, 9, 9, 9, 9))
	x.Procs = memory[:len(x.Procs)]
	return x, memory
}

// spoil writes into an answer's lists, their spare room included.
func spoil(a answer) {
	procs := a.table.Procs[:cap(a.table.Procs)]
	for i := range procs {
		procs[i] = row(-1, -1, -1, -1, -1)
	}
	list := a.list[:cap(a.list)]
	for i := range list {
		list[i] = -1
	}
}

// The rules on memory: what is handed in is neither changed nor shared, its spare room included; beside an error, and of a table that isn't right, too.
func TestMemory(t *testing.T) {
	m := newMaker(208)
	for i := range 20000 {
		x := m.table()
		if i%10 == 0 {
			x.Next = -x.Next
		}
		c := m.call(x)
		want := c.wanted(x)
		given, memory := roomy(x)
		before := slices.Clone(memory)
		got := c.of(given)
		if !sameAnswer(got, want) || !slices.Equal(memory, before) {
			t.Fatalf("%s of %v, %v: %v, and what was handed in is %v", c.name, x, c, got, memory)
		}
		again := c.of(given)
		spoil(got)
		if !slices.Equal(memory, before) || !sameAnswer(again, want) {
			t.Fatalf("%s of %v, %v shares memory", c.name, x, c)
		}
		spoil(answer{table: given})
		if !sameAnswer(again, want) {
			t.Fatalf("%s of %v, %v: the answer hangs on what was handed in", c.name, x, c)
		}
	}
}

// Two processes made from one table make two tables.
func TestApart(t *testing.T) {
	x, a, _ := table.Spawn(table.Table{Next: 1}, 0)
	x, _, _ = table.Fork(x, a, 1)
	x, _, _ = table.Fork(x, a, 2)
	y, _, _ := table.Fork(x, a, 3)
	z, _, _ := table.Spawn(x, 4)
	p, _ := table.Get(y, 4)
	q, _ := table.Get(z, 4)
	if len(x.Procs) != 3 || p.Prog != 3 || p.Parent != a || q.Prog != 4 || q.Parent != 0 {
		t.Error(x, p, q)
	}
}

// Lists that are nil and such that are empty are one.
func TestEmpty(t *testing.T) {
	m := newMaker(209)
	for range 300 {
		c := m.call(table.Table{Next: 1})
		if one, two := c.of(table.Table{Next: 1}), c.of(table.Table{Next: 1, Procs: []table.Proc{}}); !sameAnswer(one, two) {
			t.Errorf("%v: %v, %v", c, one, two)
		}
	}
}
