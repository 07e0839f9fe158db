package program_test

import (
	"fmt"
	"math"
	"math/big"
	"slices"
	"strings"
	"testing"

	"parlour/api"
	"parlour/program"
)

// plain is so many operations that do nothing to how many there are.
func plain(n int) []program.Op { return slices.Repeat([]program.Op{{Kind: program.Copy}}, n) }

// named is so many programs without operations, with names that differ.
func named(n int) []program.Prog {
	var l []program.Prog
	for i := range n {
		l = append(l, program.Prog{Name: fmt.Sprintf("p%d", i)})
	}
	return l
}

// one is a program of some operations.
func one(ops ...program.Op) []program.Prog { return []program.Prog{{Name: "a", Ops: ops}} }

// The names of kinds are the document's numbers.
func TestConstants(t *testing.T) {
	l := []int{
		program.Exit, program.Out, program.Err, program.In, program.Fork, program.Exec, program.Wait, program.Kill,
		program.Group, program.Session, program.Front, program.Act, program.Mask, program.Sleep, program.Mode, program.Copy,
	}
	for i, k := range kinds {
		if l[i] != k.kind {
			t.Errorf("%s: %d", k.word, l[i])
		}
	}
}

// The document's examples.
func TestExamples(t *testing.T) {
	parses(t, "prog a\nout hi\\0a\nexit 3\n", one(program.Op{Kind: program.Out, Text: "hi\n"}, program.Op{Kind: program.Exit, A: 3}), api.OK)
	refuses(t, "prog a\nfork 0\n", api.ErrArg)
}

// P19.1: each kind with its numbers at their edges, one by one.
func TestRightEdges(t *testing.T) {
	long := strings.Repeat("\x00", 1025)
	for _, x := range []struct {
		o     program.Op
		right bool
	}{
		{program.Op{Kind: program.Exit}, true},
		{program.Op{Kind: program.Exit, A: 255}, true},
		{program.Op{Kind: program.Exit, A: 256}, false},
		{program.Op{Kind: program.Exit, A: -1}, false},
		{program.Op{Kind: program.Out}, true},
		{program.Op{Kind: program.Out, Text: long[1:]}, true},
		{program.Op{Kind: program.Out, Text: long}, false},
		{program.Op{Kind: program.Out, B: 1}, false},
		{program.Op{Kind: program.Err}, true},
		{program.Op{Kind: program.Err, Text: long[1:]}, true},
		{program.Op{Kind: program.Err, Text: long}, false},
		{program.Op{Kind: program.Err, A: 1}, false},
		{program.Op{Kind: program.In}, false},
		{program.Op{Kind: program.In, A: 1}, true},
		{program.Op{Kind: program.In, A: 1024}, true},
		{program.Op{Kind: program.In, A: 1025}, false},
		{program.Op{Kind: program.Wait, A: 3}, true},
		{program.Op{Kind: program.Wait, A: 4}, false},
		{program.Op{Kind: program.Kill, A: 4, B: 28}, true},
		{program.Op{Kind: program.Kill, A: 5, B: 28}, false},
		{program.Op{Kind: program.Kill, A: 0, B: 9}, true},
		{program.Op{Kind: program.Kill, A: 0, B: 0}, false},
		{program.Op{Kind: program.Kill, A: 0, B: 16}, false},
		{program.Op{Kind: program.Group, A: 2}, true},
		{program.Op{Kind: program.Group, A: 3}, false},
		{program.Op{Kind: program.Session}, true},
		{program.Op{Kind: program.Session, B: 1}, false},
		{program.Op{Kind: program.Session, Text: "a"}, false},
		{program.Op{Kind: program.Front, A: 1}, true},
		{program.Op{Kind: program.Front, A: 2}, false},
		{program.Op{Kind: program.Act, A: 1, B: 2}, true},
		{program.Op{Kind: program.Act, A: 1, B: 3}, false},
		{program.Op{Kind: program.Act, A: 9, B: 0}, false},
		{program.Op{Kind: program.Act, A: 19, B: 0}, false},
		{program.Op{Kind: program.Act, A: 16, B: 0}, false},
		{program.Op{Kind: program.Mask, A: 9, B: 1}, true},
		{program.Op{Kind: program.Mask, A: 19, B: 0}, true},
		{program.Op{Kind: program.Mask, A: 23, B: 0}, false},
		{program.Op{Kind: program.Mask, A: 1, B: 2}, false},
		{program.Op{Kind: program.Sleep}, true},
		{program.Op{Kind: program.Sleep, A: 1000}, true},
		{program.Op{Kind: program.Sleep, A: 1001}, false},
		{program.Op{Kind: program.Mode, A: 30, B: 1}, true},
		{program.Op{Kind: program.Mode, A: 93, B: 0}, true},
		{program.Op{Kind: program.Mode, A: 43, B: 0}, false},
		{program.Op{Kind: program.Mode, A: 3, B: 0}, false},
		{program.Op{Kind: program.Mode, A: 53, B: 2}, false},
		{program.Op{Kind: program.Copy}, true},
		{program.Op{Kind: program.Copy, A: 1}, false},
	} {
		if got := program.Right(x.o, 0, 1); got != x.right {
			t.Errorf("Right of %.100v: %t", x.o, got)
		}
	}
}

// P19.1: each kind, and numbers that are none, with any two numbers, and with texts.
func TestRight(t *testing.T) {
	texts := []string{"", "a", "\x00", strings.Repeat("b", 1024), strings.Repeat("b", 1025), strings.Repeat("b", 100000)}
	of := []int{math.MinInt, -17, -1, 0, 17, 18, 32, 256 + 1, 1<<32 + 1, math.MaxInt}
	for _, k := range kinds {
		of = append(of, k.kind)
	}
	for _, kind := range of {
		for _, a := range probes() {
			for _, b := range probes() {
				o := program.Op{Kind: kind, A: a, B: b, Text: texts[(a&7+b&3)%len(texts)]}
				if got, want := program.Right(o, 3, 30), rightOf(o, 3, 30); got != want {
					t.Fatalf("Right of %.100v: %t", o, got)
				}
				o.Text = ""
				if got, want := program.Right(o, 3, 30), rightOf(o, 3, 30); got != want {
					t.Fatalf("Right of %v: %t", o, got)
				}
			}
		}
		for _, text := range texts {
			o := program.Op{Kind: kind, Text: text}
			if got, want := program.Right(o, 3, 30), rightOf(o, 3, 30); got != want {
				t.Fatalf("Right of %d with %d bytes: %t", kind, len(text), got)
			}
		}
	}
}

// P19.1: every small number in each place.
func TestRightSmall(t *testing.T) {
	for kind := range 18 {
		for a := -2; a < 1030; a++ {
			for b := -1; b < 31; b++ {
				o := program.Op{Kind: kind, A: a, B: b}
				if got, want := program.Right(o, 3, 30), rightOf(o, 3, 30); got != want {
					t.Fatalf("Right of %v: %t", o, got)
				}
			}
		}
	}
}

// P19.1: what a Fork and an Exec run is above at and below all, whatever these are, and whatever hangs on them hangs on them alone.
func TestRightLater(t *testing.T) {
	for _, at := range probes() {
		for _, all := range probes() {
			for _, a := range probes() {
				want := a > at && a < all
				for _, kind := range []int{program.Fork, program.Exec} {
					if got := program.Right(program.Op{Kind: kind, A: a}, at, all); got != want {
						t.Fatalf("Right of a %d of %d in %d of %d: %t", kind, a, at, all, got)
					}
				}
			}
			if !program.Right(program.Op{Kind: program.Exit, A: 7}, at, all) || program.Right(program.Op{Kind: program.Exit, A: 256}, at, all) {
				t.Fatalf("Right of an Exit hangs on %d of %d", at, all)
			}
		}
	}
}

// P19.1: how many programs there may be.
func TestCheckCount(t *testing.T) {
	checks(t, nil, api.ErrRange)
	checks(t, []program.Prog{}, api.ErrRange)
	checks(t, named(1), api.OK)
	checks(t, named(32), api.OK)
	checks(t, named(33), api.ErrRange)
	checks(t, make([]program.Prog, 33), api.ErrRange)
	checks(t, named(10000), api.ErrRange)
}

// P19.1: which names may be.
func TestCheckNames(t *testing.T) {
	for _, name := range []string{"a", "z", "0", "9", "09az", "prog", "exit", strings.Repeat("x", 64)} {
		checks(t, []program.Prog{{Name: name}}, api.OK)
	}
	for _, name := range []string{"", " ", "A", "a b", "a\n", "\na", "a-", "a_b", "\xc3\xa9", "a\x00", "a/", "a:", "`", "{", strings.Repeat("x", 65), strings.Repeat("x", 100000)} {
		checks(t, []program.Prog{{Name: name}}, api.ErrForm)
	}
	for c := range 256 {
		want := api.ErrForm
		if c >= 'a' && c <= 'z' || c >= '0' && c <= '9' {
			want = api.OK
		}
		checks(t, []program.Prog{{Name: "x" + string([]byte{byte(c)})}}, want)
		checks(t, []program.Prog{{Name: string([]byte{byte(c)}) + "x"}}, want)
	}
}

// P19.1: how many operations a program may have, and that each of them is looked at.
func TestCheckOps(t *testing.T) {
	checks(t, one(plain(64)...), api.OK)
	checks(t, one(plain(65)...), api.ErrFull)
	checks(t, one(plain(100000)...), api.ErrFull)
	for i := range 64 {
		l := plain(64)
		l[i].A = 1
		checks(t, one(l...), api.ErrArg)
	}
}

// P19.1: a Fork and an Exec are of a program behind their own.
func TestCheckLater(t *testing.T) {
	for _, kind := range []int{program.Fork, program.Exec} {
		for at := range 5 {
			for a := -1; a <= 6; a++ {
				l := named(5)
				l[at].Ops = []program.Op{{Kind: kind, A: a}}
				want := api.ErrArg
				if a > at && a < 5 {
					want = api.OK
				}
				checks(t, l, want)
			}
		}
	}
}

// P19.1: no two programs have one name.
func TestCheckTwice(t *testing.T) {
	for i := range 32 {
		for j := range 32 {
			l := named(32)
			l[i].Name = l[j].Name
			want := api.ErrForm
			if i == j {
				want = api.OK
			}
			checks(t, l, want)
		}
	}
}

// P19.1: of several errors the first one is told, program by program, and a name that there is twice behind all others.
func TestCheckOrder(t *testing.T) {
	right, badName := program.Prog{Name: "a"}, program.Prog{Name: "A"}
	full := program.Prog{Name: "b", Ops: slices.Repeat([]program.Op{{}}, 65)}
	badOp := program.Prog{Name: "c", Ops: []program.Op{{Kind: 17}}}
	all := program.Prog{Name: "A", Ops: full.Ops}
	for i, x := range []struct {
		l []program.Prog
		e api.Errno
	}{
		{[]program.Prog{all}, api.ErrForm},
		{[]program.Prog{full}, api.ErrFull},
		{[]program.Prog{badOp, all}, api.ErrArg},
		{[]program.Prog{full, badName}, api.ErrFull},
		{[]program.Prog{badName, full}, api.ErrForm},
		{[]program.Prog{badOp, full}, api.ErrArg},
		{[]program.Prog{full, badOp}, api.ErrFull},
		{[]program.Prog{right, right, badOp}, api.ErrArg},
		{[]program.Prog{right, right, full}, api.ErrFull},
		{[]program.Prog{badOp, badOp}, api.ErrArg},
		{[]program.Prog{full, full}, api.ErrFull},
		{[]program.Prog{right, badOp, right}, api.ErrArg},
		{[]program.Prog{right, right, badName}, api.ErrForm},
		{append(named(31), all, all), api.ErrRange},
	} {
		if e := program.Check(x.l); e != x.e {
			t.Errorf("%d: error %d, not %d", i, e, x.e)
		}
		checks(t, x.l, x.e)
	}
}

// P19.1: the first program of a name, in any list.
func TestFind(t *testing.T) {
	l := []program.Prog{{Name: "b"}, {Name: "a"}, {Name: ""}, {Name: "a"}, {Name: "A b"}, {Name: "c", Ops: []program.Op{{Kind: 99}}}, {Name: "b"}}
	for name, want := range map[string]int{"b": 0, "a": 1, "": 2, "A b": 4, "c": 5} {
		if i, ok := program.Find(l, name); i != want || !ok {
			t.Errorf("Find of %q: %d, %t", name, i, ok)
		}
	}
	for _, name := range []string{"d", "B", "a ", " a", "A", "aa", "a\x00", strings.Repeat("a", 10000)} {
		if i, ok := program.Find(l, name); i != 0 || ok {
			t.Errorf("Find of %q: %d, %t", name, i, ok)
		}
	}
	if i, ok := program.Find(nil, ""); i != 0 || ok {
		t.Errorf("Find in none: %d, %t", i, ok)
	}
	many := named(10000)
	if i, ok := program.Find(many, "p9999"); i != 9999 || !ok {
		t.Errorf("Find of the last of many: %d, %t", i, ok)
	}
}

// works checks what Work answers of each program.
func works(t *testing.T, l []program.Prog, want ...int) {
	t.Helper()
	for i, n := range want {
		if got := program.Work(l, i); got != n {
			t.Errorf("Work of %d of %v: %d, not %d", i, l, got, n)
		}
	}
	for _, i := range []int{math.MinInt, -1, len(l), len(l) + 1, 31, 32, 33, 1 << 32, math.MaxInt} {
		if got := program.Work(l, i); i >= len(l) && got != 0 || i < 0 && got != 0 {
			t.Errorf("Work of %d of %d: %d", i, len(l), got)
		}
	}
}

// P19.4: what counts, and what ends a count.
func TestWork(t *testing.T) {
	fork := func(a int) program.Op { return program.Op{Kind: program.Fork, A: a} }
	exec := func(a int) program.Op { return program.Op{Kind: program.Exec, A: a} }
	exit := program.Op{Kind: program.Exit}
	wait := program.Op{Kind: program.Wait}
	of := func(ops ...[]program.Op) []program.Prog {
		l := named(len(ops))
		for i := range l {
			l[i].Ops = ops[i]
		}
		return l
	}
	works(t, of(nil), 0)
	works(t, of(plain(64)), 64)
	works(t, of([]program.Op{exit}), 1)
	works(t, of([]program.Op{wait, exit, wait, wait}), 2)
	works(t, of([]program.Op{fork(1)}, nil), 1, 0)
	works(t, of([]program.Op{exec(1)}, nil), 1, 0)
	works(t, of([]program.Op{fork(1), wait}, plain(5)), 7, 5)
	works(t, of([]program.Op{fork(1), fork(1), wait}, plain(5)), 13, 5)
	works(t, of([]program.Op{exec(1), wait}, plain(5)), 6, 5)
	works(t, of([]program.Op{wait, exec(1), fork(1), exit}, plain(5)), 7, 5)
	works(t, of([]program.Op{exit, fork(1), exec(1)}, plain(5)), 1, 5)
	works(t, of([]program.Op{fork(1), exit, fork(1)}, plain(5)), 7, 5)
	works(t, of([]program.Op{fork(2), exec(1)}, []program.Op{fork(2), wait, exec(2), wait}, plain(5)), 20, 13, 5)
	works(t, of([]program.Op{fork(1)}, []program.Op{exit, wait}, plain(5)), 2, 1, 5)
}

// P19.4: each kind of operation but three is one, and no more.
func TestWorkPlain(t *testing.T) {
	m := newMaker(194)
	for _, k := range kinds {
		o := program.Op{Kind: k.kind}
		if k.kind == program.Exit || k.later {
			continue
		}
		if k.numbers > 0 {
			o.A = m.of(k.a)
		}
		if k.numbers > 1 {
			o.B = m.of(k.b)
		}
		works(t, one(o, program.Op{Kind: program.Exit}), 2)
		works(t, one(o, o, o), 3)
	}
}

// doubled is programs each of which runs the next one so many times, and the last of which has so many plain operations.
func doubled(all, times, last int) []program.Prog {
	l := named(all)
	for i := range all - 1 {
		l[i].Ops = slices.Repeat([]program.Op{{Kind: program.Fork, A: i + 1}}, times)
	}
	l[all-1].Ops = plain(last)
	return l
}

// P19.4: what is more than the most that is told is told as that.
func TestWorkMost(t *testing.T) {
	const most = 1073741824
	l := doubled(32, 64, 64)
	works(t, l, append(slices.Repeat([]int{most}, 28), 17043520, 266304, 4160, 64)...)
	// One more operation, up to the most that is told, and beyond it: 2 + 2 * (2 + 2 * ..) is 2^n - 2.
	l = doubled(30, 2, 0)
	if got := program.Work(l, 0); got != 1<<30-2 {
		t.Errorf("Work of 29 twice: %d", got)
	}
	for extra, want := range []int{most - 2, most - 1, most, most, most} {
		l[0].Ops = append(plain(extra), doubled(30, 2, 0)[0].Ops...)
		if got := program.Work(l, 0); got != want {
			t.Errorf("Work of 29 twice and %d: %d, not %d", extra, got, want)
		}
		l[0].Ops = append(doubled(30, 2, 0)[0].Ops, plain(extra)...)
		if got := program.Work(l, 0); got != want {
			t.Errorf("Work of 29 twice and %d behind: %d, not %d", extra, got, want)
		}
	}
	// An Exec of what is the most already.
	l = doubled(32, 2, 1)
	for _, kind := range []int{program.Fork, program.Exec} {
		l[0].Ops = []program.Op{{Kind: kind, A: 1}, {Kind: program.Copy}}
		if got := program.Work(l, 0); got != most {
			t.Errorf("Work of a %d of the most: %d", kind, got)
		}
	}
}

// workOf is Work as the document says it, however much it is.
func workOf(l []program.Prog, i int, known map[int]*big.Int) *big.Int {
	if n := known[i]; n != nil {
		return n
	}
	n := new(big.Int)
	known[i] = n
	for _, o := range l[i].Ops {
		n.Add(n, big.NewInt(1))
		if o.Kind == program.Fork || o.Kind == program.Exec {
			n.Add(n, workOf(l, o.A, known))
		}
		if o.Kind == program.Exit || o.Kind == program.Exec {
			return n
		}
	}
	return n
}

// P19.4: any programs, many of whose operations run others.
func TestWorkAny(t *testing.T) {
	m := newMaker(4)
	small, great := 0, 0
	for range 2000 {
		l := m.progs(32, 12)
		for i := range len(l) - 1 {
			for range m.Intn(20) {
				l[i].Ops = append([]program.Op{{Kind: program.Fork, A: i + 1 + m.Intn(min(3, len(l)-i-1))}}, l[i].Ops...)
			}
		}
		known := map[int]*big.Int{}
		for i := range l {
			want := 1 << 30
			if n := workOf(l, i, known); n.Cmp(big.NewInt(1<<30)) < 0 {
				want = int(n.Int64())
				small++
			} else {
				great++
			}
			if got := program.Work(l, i); got != want {
				t.Fatalf("Work of %d of %v: %d, not %d", i, l, got, want)
			}
		}
	}
	if small < 1000 || great < 1000 {
		t.Errorf("%d small, %d great: the test looks at one sort alone", small, great)
	}
}

// P19.4: of programs that aren't right, and of numbers that are none of theirs, it is 0.
func TestWorkOfNone(t *testing.T) {
	works(t, nil)
	works(t, one(plain(3)...), 3)
	checks(t, one(plain(65)...), api.ErrFull)
	checks(t, append(named(2), program.Prog{Name: "p0"}), api.ErrForm)
	checks(t, append(one(plain(3)...), program.Prog{Name: "b", Ops: []program.Op{{Kind: program.Fork}}}), api.ErrArg)
	checks(t, append(one(plain(3)...), program.Prog{Name: "b", Ops: []program.Op{{Kind: program.Fork, A: math.MaxInt}}}), api.ErrArg)
	checks(t, append(one(plain(3)...), program.Prog{Name: "b", Ops: []program.Op{{Kind: program.Exec, A: -1}}}), api.ErrArg)
}

// P19.5: it is one more with each plain operation in front.
func TestWorkInFront(t *testing.T) {
	m := newMaker(5)
	for range 500 {
		l := m.progs(6, 20)
		i := m.Intn(len(l))
		n := program.Work(l, i)
		for more := 1; len(l[i].Ops) < 64; more++ {
			o := m.op(i, len(l))
			if o.Kind == program.Exit || o.Kind == program.Fork || o.Kind == program.Exec {
				o = program.Op{Kind: program.Session}
			}
			l[i].Ops = append([]program.Op{o}, l[i].Ops...)
			if got := program.Work(l, i); got != min(n+more, 1<<30) {
				t.Fatalf("Work of %v with %d in front: %d, not %d", l, more, got, n+more)
			}
		}
	}
}

// P19.1: any programs, right ones and ones that aren't.
func TestCheckAny(t *testing.T) {
	m := newMaker(191)
	found := map[api.Errno]int{}
	for range 5000 {
		l := m.progs(36, 70)
		for range m.Intn(3) {
			p := &l[m.Intn(len(l))]
			switch m.Intn(4) {
			case 0:
				p.Name = l[m.Intn(len(l))].Name
			case 1:
				p.Name += m.bytes(2)
			case 2:
				p.Ops = append(p.Ops, program.Op{Kind: 1 + m.Intn(16), A: m.anyNumber(), B: m.anyNumber()})
			default:
				p.Ops = append(p.Ops, plain(64)...)
			}
		}
		want := checkOf(l)
		found[want]++
		checks(t, l, want)
	}
	for _, e := range []api.Errno{api.OK, api.ErrRange, api.ErrForm, api.ErrFull, api.ErrArg} {
		if found[e] < 20 {
			t.Errorf("error %d: %d times alone", e, found[e])
		}
	}
}

// P1, and the rules on what is handed in: no call changes programs, or the spare room of their lists.
func TestHandedIn(t *testing.T) {
	m := newMaker(7)
	for range 200 {
		l := m.progs(8, 20)
		roomy := append(make([]program.Prog, 0, len(l)+3), l...)
		spare := program.Prog{Name: "spare", Ops: plain(1)}
		copy(roomy[len(l):cap(roomy)], []program.Prog{spare, spare, spare})
		for i := range roomy {
			ops := append(make([]program.Op, 0, len(l[i].Ops)+2), l[i].Ops...)
			copy(ops[len(ops):cap(ops)], []program.Op{{Kind: 77}, {Kind: 78}})
			roomy[i].Ops = ops
		}
		want := clone(roomy[:cap(roomy)])
		program.Check(roomy)
		program.Print(roomy)
		program.Find(roomy, "none")
		program.Work(roomy, 0)
		if !same(roomy[:cap(roomy)], want) {
			t.Fatalf("%v became %v", want, roomy[:cap(roomy)])
		}
		for _, p := range roomy {
			if s := p.Ops[len(p.Ops):cap(p.Ops)]; s[0].Kind != 77 || s[1].Kind != 78 {
				t.Fatalf("spare room became %v", s)
			}
		}
	}
}
