package table_test

import (
	"maps"
	"math"
	"math/rand"
	"slices"
	"testing"

	"parlour/api"
	"parlour/sigset"
	"parlour/table"
)

// What a process is doing, how a wait may be, and what is done with a signal, as the document says it.
const (
	runs    = 1
	stopped = 2
	zombie  = 3

	noHang   = 1
	untraced = 2

	ignore = 1
	catch  = 2

	chld = 17
	most = 32
)

// world is a table as the document says it: processes by their numbers.
type world struct {
	procs map[int]*table.Proc
	next  int
}

func worldOf(t table.Table) world {
	w := world{map[int]*table.Proc{}, t.Next}
	for _, p := range t.Procs {
		w.procs[p.Pid] = &p
	}
	return w
}

// pids is the numbers of all processes, rising.
func (w world) pids() []int { return slices.Sorted(maps.Keys(w.procs)) }

func (w world) table() table.Table {
	t := table.Table{Next: w.next}
	for _, pid := range w.pids() {
		t.Procs = append(t.Procs, *w.procs[pid])
	}
	return t
}

// rightOf says whether a table is right.
func rightOf(t table.Table) bool {
	if t.Next <= 0 || len(t.Procs) > most {
		return false
	}
	for i, p := range t.Procs {
		if p.Pid <= 0 || p.Pid >= t.Next || i > 0 && p.Pid <= t.Procs[i-1].Pid {
			return false
		}
	}
	return true
}

func (w world) lives(pid int) bool {
	p, ok := w.procs[pid]
	return ok && p.State != zombie
}

func (w world) living(pids ...int) bool {
	for _, pid := range pids {
		if !w.lives(pid) {
			return false
		}
	}
	return true
}

// children is a process's, rising.
func (w world) children(pid int) []*table.Proc {
	var l []*table.Proc
	for _, child := range w.pids() {
		if p := w.procs[child]; p.Parent == pid {
			l = append(l, p)
		}
	}
	return l
}

// more is one process more.
func (w *world) more(p table.Proc) (int, api.Errno) {
	if len(w.procs) == most {
		return 0, 10
	}
	p.Pid, p.State = w.next, runs
	w.procs[p.Pid] = &p
	w.next++
	return p.Pid, 0
}

// spawn is Spawn.
func (w *world) spawn(prog int) (int, api.Errno) {
	return w.more(table.Proc{Group: w.next, Session: w.next, Prog: prog})
}

// fork is Fork.
func (w *world) fork(pid, prog int) (int, api.Errno) {
	if !w.lives(pid) {
		return 0, 8
	}
	p := w.procs[pid]
	return w.more(table.Proc{Parent: pid, Group: p.Group, Session: p.Session, Mask: p.Mask, Acts: p.Acts, Prog: prog})
}

// exec is Exec.
func (w *world) exec(pid, prog int) api.Errno {
	if !w.lives(pid) {
		return 8
	}
	p := w.procs[pid]
	p.Prog, p.At = prog, 0
	for i := range p.Acts {
		if p.Acts[i] == catch {
			p.Acts[i] = 0
		}
	}
	return 0
}

// end is End.
func (w *world) end(pid, status int) api.Errno {
	if !w.lives(pid) {
		return 8
	}
	p := w.procs[pid]
	p.State, p.Status, p.Pending = zombie, status, 0
	for _, child := range w.children(pid) {
		child.Parent = 0
	}
	if w.lives(p.Parent) {
		w.procs[p.Parent].Pending |= 1 << chld
	}
	for w.freeOne() {
	}
	return 0
}

// freeOne has one process gone, the last one that may be; false: none may be.
func (w *world) freeOne() bool {
	for _, pid := range slices.Backward(w.pids()) {
		p := w.procs[pid]
		if p.State != zombie {
			continue
		}
		parent, there := w.procs[p.Parent]
		if p.Parent == 0 || !there || parent.Acts[chld] == ignore {
			delete(w.procs, pid)
			return true
		}
	}
	return false
}

// wait is Wait.
func (w *world) wait(pid, how int) (int, int, api.Errno) {
	if !w.lives(pid) {
		return 0, 0, 8
	}
	children := w.children(pid)
	if len(children) == 0 {
		return 0, 0, 13
	}
	for _, p := range children {
		if p.State == zombie {
			delete(w.procs, p.Pid)
			return p.Pid, p.Status, 0
		}
	}
	for _, p := range children {
		if how > 0 && how/2%2 == 1 && p.State == stopped && !p.Told {
			p.Told = true
			return p.Pid, p.Status, 0
		}
	}
	if how > 0 && how%2 == 1 {
		return 0, 0, 0
	}
	return 0, 0, 10
}

// setGroup is SetGroup.
func (w *world) setGroup(pid, target, group int) api.Errno {
	if !w.living(pid, target) {
		return 8
	}
	p, q := w.procs[pid], w.procs[target]
	if target != pid && q.Parent != pid {
		return 12
	}
	if q.Session != p.Session {
		return 12
	}
	if q.Session == target {
		return 12
	}
	there := group == target
	for _, other := range w.procs {
		if other.State != zombie && other.Session == p.Session && other.Group == group {
			there = true
		}
	}
	if !there {
		return 12
	}
	q.Group = group
	return 0
}

// setSession is SetSession.
func (w *world) setSession(pid int) api.Errno {
	if !w.lives(pid) {
		return 8
	}
	if len(w.members(pid)) > 0 {
		return 12
	}
	w.procs[pid].Group, w.procs[pid].Session = pid, pid
	return 0
}

// members is Members.
func (w world) members(group int) []int {
	var l []int
	for _, pid := range w.pids() {
		if w.lives(pid) && w.procs[pid].Group == group {
			l = append(l, pid)
		}
	}
	return l
}

// orphaned is Orphaned.
func (w world) orphaned(group int) bool {
	for _, pid := range w.members(group) {
		p := w.procs[pid]
		if !w.lives(p.Parent) {
			continue
		}
		if parent := w.procs[p.Parent]; parent.Session == p.Session && parent.Group != group {
			return false
		}
	}
	return true
}

// call is a call of the layer, by its name, with all numbers that any one takes.
type call struct {
	name                  string
	pid, target, group, n int
	p                     table.Proc
}

// names is the layer's calls.
var names = []string{"Get", "Live", "Set", "Spawn", "Fork", "Exec", "End", "Wait", "SetGroup", "SetSession", "Members", "Orphaned"}

// answer is what any call answers.
type answer struct {
	table  table.Table
	p      table.Proc
	ok     bool
	pid, n int
	list   []int
	e      api.Errno
}

// of is what the layer answers.
func (c call) of(t table.Table) (a answer) {
	switch c.name {
	case "Get":
		a.p, a.ok = table.Get(t, c.pid)
	case "Live":
		a.ok = table.Live(t, c.pid)
	case "Set":
		a.table = table.Set(t, c.p)
	case "Spawn":
		a.table, a.pid, a.e = table.Spawn(t, c.n)
	case "Fork":
		a.table, a.pid, a.e = table.Fork(t, c.pid, c.n)
	case "Exec":
		a.table, a.e = table.Exec(t, c.pid, c.n)
	case "End":
		a.table, a.e = table.End(t, c.pid, c.n)
	case "Wait":
		a.table, a.pid, a.n, a.e = table.Wait(t, c.pid, c.n)
	case "SetGroup":
		a.table, a.e = table.SetGroup(t, c.pid, c.target, c.group)
	case "SetSession":
		a.table, a.e = table.SetSession(t, c.pid)
	case "Members":
		a.list = table.Members(t, c.group)
	case "Orphaned":
		a.ok = table.Orphaned(t, c.group)
	}
	return a
}

// wanted is what the document says of it.
func (c call) wanted(t table.Table) (a answer) {
	if !rightOf(t) {
		return c.wrong(t)
	}
	w := worldOf(t)
	switch c.name {
	case "Get":
		if p, ok := w.procs[c.pid]; ok {
			a.p, a.ok = *p, true
		}
		return a
	case "Live":
		a.ok = w.lives(c.pid)
		return a
	case "Members":
		a.list = w.members(c.group)
		return a
	case "Orphaned":
		a.ok = w.orphaned(c.group)
		return a
	case "Set":
		if _, ok := w.procs[c.p.Pid]; ok {
			w.procs[c.p.Pid] = &c.p
		}
	case "Spawn":
		a.pid, a.e = w.spawn(c.n)
	case "Fork":
		a.pid, a.e = w.fork(c.pid, c.n)
	case "Exec":
		a.e = w.exec(c.pid, c.n)
	case "End":
		a.e = w.end(c.pid, c.n)
	case "Wait":
		a.pid, a.n, a.e = w.wait(c.pid, c.n)
	case "SetGroup":
		a.e = w.setGroup(c.pid, c.target, c.group)
	case "SetSession":
		a.e = w.setSession(c.pid)
	}
	a.table = w.table()
	return a
}

// wrong is what the document says of it, of a table that isn't right: zero, false, or the error, and beside the error the table that was handed in.
func (c call) wrong(t table.Table) answer {
	if slices.Contains([]string{"Get", "Live", "Set", "Members", "Orphaned"}, c.name) {
		return answer{}
	}
	return answer{table: t, e: 4}
}

func sameTable(a, b table.Table) bool { return a.Next == b.Next && slices.Equal(a.Procs, b.Procs) }

func sameAnswer(a, b answer) bool {
	return sameTable(a.table, b.table) && a.p == b.p && a.ok == b.ok && a.pid == b.pid && a.n == b.n && slices.Equal(a.list, b.list) && a.e == b.e
}

// answers checks what a call answers of a table, and that it leaves the table as it is.
func answers(t *testing.T, x table.Table, c call) answer {
	t.Helper()
	before := table.Table{Procs: slices.Clone(x.Procs), Next: x.Next}
	got, want := c.of(x), c.wanted(x)
	if !sameAnswer(got, want) {
		t.Fatalf("%s of %v, %v: %v, not %v", c.name, x, c, got, want)
	}
	if !sameTable(x, before) {
		t.Fatalf("%s of %v, %v changed it to %v", c.name, before, c, x)
	}
	return got
}

// maker makes tables and calls, each number from the one ahead of it, so that a test is the same each time.
type maker struct{ *rand.Rand }

func newMaker(seed int64) maker { return maker{rand.New(rand.NewSource(seed))} }

// edges is numbers at the ends, and others that nothing has.
func edges() []int {
	return []int{math.MinInt, math.MinInt + 1, math.MinInt32, -1000, -33, -3, -2, -1, 0, 1 << 32, 1<<32 + 1, 1<<32 + 2, math.MaxInt - 1, math.MaxInt}
}

// near is often the number of a process of a table, or one beside it, and else any one.
func (m maker) near(t table.Table) int {
	l := edges()
	if n := len(t.Procs); n > 0 && m.Intn(8) > 0 {
		return t.Procs[m.Intn(n)].Pid + max(0, m.Intn(12)-10)
	}
	if m.Intn(3) == 0 {
		return t.Next + m.Intn(3) - 1
	}
	return l[m.Intn(len(l))]
}

// state is one of the three, most often one in which a process lives, and now and then none of them.
func (m maker) state() int {
	l := []int{runs, runs, runs, stopped, stopped, zombie, zombie, runs, stopped, []int{0, 4, -1, -3, 1<<32 + 3}[m.Intn(5)]}
	return l[m.Intn(len(l))]
}

// acts is actions, any ones now and then, and SIGCHLD ignored often.
func (m maker) acts() sigset.Actions {
	var a sigset.Actions
	for i := range a {
		a[i] = m.Intn(3)
		if m.Intn(20) == 0 {
			a[i] = m.Intn(9) - 3
		}
	}
	if m.Intn(2) == 0 {
		a[chld] = ignore
	}
	return a
}

// proc is a process of any kind, of a table whose numbers are there already.
func (m maker) proc(t table.Table) table.Proc {
	p := table.Proc{Parent: m.near(t), Group: m.near(t), Session: m.near(t), State: m.state()}
	p.Prog, p.At, p.Status = m.Intn(9)-2, m.Intn(9), m.Intn(4000)-10
	p.Pending, p.Mask = sigset.Set(m.Uint64()), sigset.Set(m.Uint64())
	p.Acts, p.Told = m.acts(), m.Intn(2) == 0
	if m.Intn(3) == 0 {
		p.Parent = 0
	}
	return p
}

// table is a right table whose processes are anything; they are of few groups and sessions, so that many are of one.
func (m maker) table() table.Table {
	n := m.Intn(9)
	if m.Intn(10) == 0 {
		n = most - m.Intn(3)
	}
	t := table.Table{Next: 1, Procs: make([]table.Proc, n)}
	for i := range t.Procs {
		t.Procs[i].Pid = t.Next + max(0, m.Intn(6)-3)
		t.Next = t.Procs[i].Pid + 1
	}
	t.Next += max(0, m.Intn(6)-3)
	group, session := m.near(t), m.near(t)
	for i, p := range t.Procs {
		q := m.proc(t)
		q.Pid = p.Pid
		if m.Intn(2) == 0 {
			q.Group = group
		}
		if m.Intn(3) > 0 {
			q.Session = session
		}
		t.Procs[i] = q
	}
	return t
}

// call is any call, of numbers that are a table's often.
func (m maker) call(t table.Table) call {
	c := call{name: names[m.Intn(len(names))], pid: m.near(t), target: m.near(t), group: m.near(t), n: m.Intn(8) - 2}
	if m.Intn(3) == 0 {
		c.target = c.pid
	}
	if m.Intn(3) == 0 {
		c.group = c.target
	}
	if m.Intn(5) == 0 {
		c.n = edges()[m.Intn(len(edges()))]
	}
	c.p = m.proc(t)
	c.p.Pid = m.near(t)
	return c
}
