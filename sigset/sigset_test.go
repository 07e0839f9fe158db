package sigset_test

import (
	"math"
	"math/rand"
	"slices"
	"strings"
	"testing"

	"parlour/api"
	"parlour/sigset"
)

// What is done with a signal, and what becomes of a process, as the document says it.
const (
	byDefault = 0
	ignore    = 1
	catch     = 2

	dies      = 1
	diesCore  = 2
	nothing   = 3
	stops     = 4
	continues = 5
	caught    = 6
)

// The signals that this layer speaks of by themselves.
const (
	kill  = 9
	cont  = 18
	stop  = 19
	first = 1
	last  = 28
)

// row is a signal as the document says it.
type row struct {
	sig    int
	name   string
	effect int
	wire   bool
}

// rows is the document's table.
func rows() []row {
	return []row{
		{1, "HUP", dies, true},
		{2, "INT", dies, true},
		{3, "QUIT", diesCore, true},
		{4, "ILL", diesCore, true},
		{5, "TRAP", diesCore, false},
		{6, "ABRT", diesCore, true},
		{7, "BUS", diesCore, false},
		{8, "FPE", diesCore, true},
		{9, "KILL", dies, true},
		{10, "USR1", dies, true},
		{11, "SEGV", diesCore, true},
		{12, "USR2", dies, true},
		{13, "PIPE", dies, true},
		{14, "ALRM", dies, true},
		{15, "TERM", dies, true},
		{17, "CHLD", nothing, false},
		{18, "CONT", continues, false},
		{19, "STOP", stops, false},
		{20, "TSTP", stops, false},
		{21, "TTIN", stops, false},
		{22, "TTOU", stops, false},
		{28, "WINCH", nothing, false},
	}
}

// numbers is the signals, rising.
func numbers() []int {
	var l []int
	for _, r := range rows() {
		l = append(l, r.sig)
	}
	return l
}

// wrong is numbers that are no signal: those between and beside signals, the ends of sets and of actions, those whose last bits are a signal's, and the ends of numbers.
func wrong() []int {
	return []int{
		math.MinInt, math.MinInt + 1, math.MinInt + 2, math.MinInt32, math.MinInt32 + 2, -256, -255, -254, -64, -63, -62, -32, -28, -19, -9, -2, -1,
		0, 16, 23, 24, 25, 26, 27, 29, 30, 31, 32, 33, 34, 41, 60, 63, 64, 65, 66, 73, 82, 83, 92, 127, 128, 130, 137, 255,
		256, 256 + 2, 256 + 9, 1<<16 + 2, 1<<31 + 2, 1 << 32, 1<<32 + 2, 1<<32 + 19, math.MaxInt32, math.MaxInt - 1, math.MaxInt,
	}
}

// anything is all signals, and all wrong numbers.
func anything() []int { return append(numbers(), wrong()...) }

// whole is the set of all signals, by its bits.
func whole() sigset.Set {
	var s sigset.Set
	for _, sig := range numbers() {
		s |= 1 << sig
	}
	return s
}

// members is the signals in a set, as the document says them: by its bits.
func members(s sigset.Set) []int {
	var l []int
	for _, sig := range numbers() {
		if s>>sig&1 == 1 {
			l = append(l, sig)
		}
	}
	return l
}

// sets is a number of sets: none, each signal alone, all but one, each other bit alone, all bits, and any ones.
func sets() []sigset.Set {
	l := []sigset.Set{0, whole(), ^whole(), math.MaxUint64, 1<<kill | 1<<stop, 1<<kill | 1<<stop | 1<<cont, whole() &^ (1<<kill | 1<<stop)}
	for n := range 64 {
		l = append(l, 1<<n, whole()&^(1<<n), whole()|1<<n, ^sigset.Set(1<<n))
	}
	random := rand.New(rand.NewSource(18))
	for range 100 {
		s := sigset.Set(random.Uint64())
		l = append(l, s, s&whole(), s&sigset.Set(random.Uint64())&sigset.Set(random.Uint64()))
	}
	return l
}

// hows is what may be done with a signal, and numbers that aren't that.
func hows() (right, not []int) {
	return []int{byDefault, ignore, catch}, []int{math.MinInt, math.MinInt + 1, -256, -2, -1, 3, 4, 5, 6, 255, 256, 257, 258, 1 << 32, 1<<32 + 1, 1<<32 + 2, math.MaxInt}
}

// anyActions is actions that may be anything, right ones often.
func anyActions(random *rand.Rand) sigset.Actions {
	var a sigset.Actions
	for i := range a {
		switch random.Intn(6) {
		case 0:
			a[i] = int(random.Uint64())
		case 1:
			a[i] = random.Intn(9) - 3
		default:
			a[i] = random.Intn(3)
		}
	}
	return a
}

// alike is actions that all are one.
func alike(how int) sigset.Actions {
	var a sigset.Actions
	for i := range a {
		a[i] = how
	}
	return a
}

// actions is a number of actions, right ones and others.
func actions() []sigset.Actions {
	right, not := hows()
	var l []sigset.Actions
	for _, how := range append(right, not...) {
		l = append(l, alike(how))
	}
	random := rand.New(rand.NewSource(183))
	for range 50 {
		l = append(l, anyActions(random))
	}
	return l
}

// effectOf is Effect as the document says it.
func effectOf(a sigset.Actions, sig int) int {
	for _, r := range rows() {
		if r.sig != sig {
			continue
		}
		if sig == kill || sig == stop || a[sig] == byDefault {
			return r.effect
		}
		if a[sig] == ignore && sig == cont {
			return continues
		}
		if a[sig] == ignore {
			return nothing
		}
		if a[sig] == catch {
			return caught
		}
		return r.effect
	}
	return 0
}

// inOrder is the signals in the order in which they are picked.
var inOrder = []int{9, 19, 18, 1, 2, 3, 4, 5, 6, 7, 8, 10, 11, 12, 13, 14, 15, 17, 20, 21, 22, 28}

// pickOf is Pick as the document says it.
func pickOf(pending, mask sigset.Set) (int, bool) {
	for _, sig := range inOrder {
		blocked := sig != kill && sig != stop && mask>>sig&1 == 1
		if pending>>sig&1 == 1 && !blocked {
			return sig, true
		}
	}
	return 0, false
}

// picks checks what Pick answers.
func picks(t *testing.T, pending, mask sigset.Set, want int, ok bool) {
	t.Helper()
	if got, is := sigset.Pick(pending, mask); got != want || is != ok {
		t.Fatalf("Pick of %v under %v: %d, %t, not %d, %t", members(pending), members(mask), got, is, want, ok)
	}
}

// acts checks what Act answers.
func acts(t *testing.T, a sigset.Actions, sig, how int, want sigset.Actions, wantError api.Errno) {
	t.Helper()
	if got, e := sigset.Act(a, sig, how); got != want || e != wantError {
		t.Fatalf("Act of %v, %d, %d: %v, error %d, not %v, error %d", a, sig, how, got, e, want, wantError)
	}
}

// effects checks what Effect answers.
func effects(t *testing.T, a sigset.Actions, sig, want int) {
	t.Helper()
	if got := sigset.Effect(a, sig); got != want {
		t.Fatalf("Effect of %v, %d: %d, not %d", a, sig, got, want)
	}
}

// The names of numbers are the document's.
func TestConstants(t *testing.T) {
	if !slices.Equal(numbers(), []int{
		api.SIGHUP, api.SIGINT, api.SIGQUIT, api.SIGILL, api.SIGTRAP, api.SIGABRT, api.SIGBUS, api.SIGFPE, api.SIGKILL, api.SIGUSR1, api.SIGSEGV,
		api.SIGUSR2, api.SIGPIPE, api.SIGALRM, api.SIGTERM, api.SIGCHLD, api.SIGCONT, api.SIGSTOP, api.SIGTSTP, api.SIGTTIN, api.SIGTTOU, api.SIGWINCH,
	}) {
		t.Error("a signal has another number")
	}
	if !slices.Equal([]int{byDefault, ignore, catch}, []int{sigset.Default, sigset.Ignore, sigset.Catch}) {
		t.Error("what is done with a signal has another number")
	}
	if !slices.Equal([]int{dies, diesCore, nothing, stops, continues, caught}, []int{sigset.Dies, sigset.DiesCore, sigset.Nothing, sigset.Stops, sigset.Continues, sigset.Caught}) {
		t.Error("what becomes of a process has another number")
	}
}

// The document's examples.
func TestExamples(t *testing.T) {
	if name, ok := sigset.Name(2); name != "INT" || !ok {
		t.Errorf("Name of 2: %q, %t", name, ok)
	}
	if sig, ok := sigset.Number("SIGINT"); sig != 0 || ok {
		t.Errorf("Number of SIGINT: %d, %t", sig, ok)
	}
	var a sigset.Actions
	effects(t, a, 20, stops)
	a[20] = ignore
	effects(t, a, 20, nothing)
	both := sigset.Of(2, kill)
	picks(t, both, both, kill, true)
}

// P18.1: each signal's name and number, and whether a client may name it.
func TestNames(t *testing.T) {
	for _, r := range rows() {
		if name, ok := sigset.Name(r.sig); name != r.name || !ok {
			t.Errorf("Name of %d: %q, %t", r.sig, name, ok)
		}
		if sig, ok := sigset.Number(r.name); sig != r.sig || !ok {
			t.Errorf("Number of %s: %d, %t", r.name, sig, ok)
		}
		if sigset.Wire(r.sig) != r.wire {
			t.Errorf("Wire of %d: %t", r.sig, !r.wire)
		}
	}
}

// P18.1: the signals that a client may name, by their names.
func TestWireNames(t *testing.T) {
	var named []string
	for sig := -100; sig < 400; sig++ {
		if sigset.Wire(sig) {
			name, _ := sigset.Name(sig)
			named = append(named, name)
		}
	}
	slices.Sort(named)
	if want := "ABRT ALRM FPE HUP ILL INT KILL PIPE QUIT SEGV TERM USR1 USR2"; strings.Join(named, " ") != want {
		t.Error(named)
	}
}

// P18.1: numbers that are no signal have no name.
func TestNoNames(t *testing.T) {
	for _, sig := range wrong() {
		if name, ok := sigset.Name(sig); name != "" || ok {
			t.Errorf("Name of %d: %q, %t", sig, name, ok)
		}
		if sigset.Wire(sig) {
			t.Errorf("Wire of %d", sig)
		}
	}
}

// noNumber checks that a text is no signal's name.
func noNumber(t *testing.T, name string) {
	t.Helper()
	if sig, ok := sigset.Number(name); sig != 0 || ok {
		t.Errorf("Number of %q: %d, %t", name, sig, ok)
	}
}

// P18.1: texts that are beside a name are none.
func TestNoNumbers(t *testing.T) {
	for _, name := range []string{"", " ", "\x00", "0", "2", "16", "SIG", "HU", "UP", "IOT", "CLD", "POLL", "STKFLT", "URG", "XCPU", "XFSZ", "VTALRM", "PROF", "IO", "PWR", "SYS", "EXIT", "USR", "USR3", "HUP INT", "HUPINT", "\xff", strings.Repeat("HUP", 20000)} {
		noNumber(t, name)
	}
	for _, r := range rows() {
		for _, name := range []string{"SIG" + r.name, strings.ToLower(r.name), r.name[:1] + strings.ToLower(r.name[1:]), " " + r.name, r.name + " ", r.name + "\n", r.name + "\x00", "K" + r.name, r.name + "L", r.name[:len(r.name)-1], r.name + "@parlour"} {
			if name == "KILL" { // of ILL
				continue
			}
			noNumber(t, name)
		}
	}
}

// P18.1: short texts are names where they are in the table, and no others.
func TestShortNames(t *testing.T) {
	numberOf := map[string]int{}
	for _, r := range rows() {
		numberOf[r.name] = r.sig
	}
	for a := 'A'; a <= 'Z'; a++ {
		for b := 'A'; b <= 'Z'; b++ {
			for c := 'A'; c <= 'Z'; c++ {
				name := string([]rune{a, b, c})
				want, is := numberOf[name]
				if sig, ok := sigset.Number(name); sig != want || ok != is {
					t.Fatalf("Number of %s: %d, %t", name, sig, ok)
				}
			}
		}
	}
}

// P18.2: the bit n is the signal n, and no other bit is set, whatever numbers are handed in.
func TestOf(t *testing.T) {
	if s := sigset.Of(); s != 0 {
		t.Errorf("Of of none: %x", s)
	}
	if s := sigset.Of(wrong()...); s != 0 {
		t.Errorf("Of of wrong numbers: %x", s)
	}
	if s := sigset.Of(anything()...); s != whole() {
		t.Errorf("Of of all: %x", s)
	}
	for _, sig := range numbers() {
		if s := sigset.Of(sig); s != 1<<sig {
			t.Errorf("Of of %d: %x", sig, s)
		}
		if s := sigset.Of(sig, sig, 16, sig); s != 1<<sig {
			t.Errorf("Of of %d again: %x", sig, s)
		}
		for _, other := range numbers() {
			if s := sigset.Of(sig, other); s != 1<<sig|1<<other {
				t.Errorf("Of of %d, %d: %x", sig, other, s)
			}
		}
	}
}

// P18.2: any numbers, in any order, make the set of those that are signals; what is handed in stays as it is.
func TestOfAny(t *testing.T) {
	random := rand.New(rand.NewSource(182))
	all := anything()
	for range 2000 {
		l := make([]int, random.Intn(40))
		var want sigset.Set
		for i := range l {
			l[i] = all[random.Intn(len(all))]
			if slices.Contains(numbers(), l[i]) {
				want |= 1 << l[i]
			}
		}
		handed := slices.Clone(l)
		if s := sigset.Of(handed...); s != want {
			t.Fatalf("Of of %v: %x, not %x", l, s, want)
		}
		if !slices.Equal(handed, l) {
			t.Fatalf("Of changed %v to %v", l, handed)
		}
	}
}

// P18.2: a set has the signals of its bits, and no number that is no signal, whatever bits it has.
func TestHas(t *testing.T) {
	for _, s := range sets() {
		for _, sig := range anything() {
			if got, want := s.Has(sig), slices.Contains(members(s), sig); got != want {
				t.Fatalf("%x has %d: %t", s, sig, got)
			}
		}
	}
}

// P18.2: a signal more and a signal less; a number that is no signal changes nothing.
func TestAddAndDel(t *testing.T) {
	for _, s := range sets() {
		for _, sig := range numbers() {
			if got := s.Add(sig); got != s|1<<sig {
				t.Fatalf("%x with %d: %x", s, sig, got)
			}
			if got := s.Del(sig); got != s&^(1<<sig) {
				t.Fatalf("%x without %d: %x", s, sig, got)
			}
		}
		for _, sig := range wrong() {
			if with, without := s.Add(sig), s.Del(sig); with != s || without != s {
				t.Fatalf("%x with and without %d: %x, %x", s, sig, with, without)
			}
		}
	}
}

// P18.2: what is listed is the signals, rising, and no other bit; the lists share no memory.
func TestList(t *testing.T) {
	for _, s := range sets() {
		l, again := s.List(), s.List()
		if !slices.Equal(l, members(s)) {
			t.Fatalf("List of %x: %v", s, l)
		}
		l = l[:cap(l)]
		for i := range l {
			l[i] = -7
		}
		if later := s.List(); !slices.Equal(again, members(s)) || !slices.Equal(later, members(s)) {
			t.Fatalf("lists of %x share memory: %v, %v", s, again, later)
		}
	}
}

// P18.2: a mask is the signals but KILL and STOP, and has no other bit.
func TestBlock(t *testing.T) {
	for _, s := range sets() {
		if got, want := sigset.Block(s), s&whole()&^(1<<kill|1<<stop); got != want {
			t.Fatalf("Block of %x: %x, not %x", s, got, want)
		}
	}
}

// P18.3: what may be done with a signal is changed of that one alone.
func TestAct(t *testing.T) {
	right, _ := hows()
	for _, a := range actions() {
		for _, sig := range numbers() {
			for _, how := range right {
				if sig == kill || sig == stop {
					acts(t, a, sig, how, sigset.Actions{}, api.ErrArg)
					continue
				}
				want := a
				want[sig] = how
				acts(t, a, sig, how, want, api.OK)
			}
		}
	}
}

// P18.3: numbers that are no signal, or nothing that may be done, are refused, together, too.
func TestActRefuses(t *testing.T) {
	right, not := hows()
	for _, a := range actions() {
		for _, sig := range wrong() {
			for _, how := range append(right, not...) {
				acts(t, a, sig, how, sigset.Actions{}, api.ErrArg)
			}
		}
		for _, sig := range numbers() {
			for _, how := range not {
				acts(t, a, sig, how, sigset.Actions{}, api.ErrArg)
			}
		}
	}
}

// P18.3: what becomes of a process by itself, signal by signal.
func TestEffectByItself(t *testing.T) {
	for _, r := range rows() {
		effects(t, sigset.Actions{}, r.sig, r.effect)
		_, not := hows()
		for _, how := range not {
			effects(t, alike(how), r.sig, r.effect)
		}
	}
}

// P18.3: signals that are ignored and caught; of KILL and STOP that says nothing, and CONT goes on where it is ignored.
func TestEffectEdges(t *testing.T) {
	for _, x := range []struct{ sig, how, want int }{
		{1, ignore, nothing}, {1, catch, caught},
		{3, ignore, nothing}, {3, catch, caught},
		{kill, ignore, dies}, {kill, catch, dies}, {kill, 3, dies},
		{15, ignore, nothing}, {15, catch, caught},
		{17, ignore, nothing}, {17, catch, caught}, {17, 3, nothing},
		{cont, ignore, continues}, {cont, catch, caught}, {cont, 3, continues}, {cont, -1, continues},
		{stop, ignore, stops}, {stop, catch, stops}, {stop, -1, stops},
		{20, ignore, nothing}, {20, catch, caught}, {20, 3, stops},
		{22, ignore, nothing}, {22, catch, caught}, {22, -1, stops},
		{28, ignore, nothing}, {28, catch, caught}, {28, math.MaxInt, nothing},
		{16, byDefault, 0}, {16, ignore, 0}, {16, catch, 0}, {31, catch, 0},
	} {
		var a sigset.Actions
		a[x.sig] = x.how
		effects(t, a, x.sig, x.want)
	}
}

// P18.3: what becomes of a process hangs on that signal's action alone; numbers that are no signal do nothing.
func TestEffect(t *testing.T) {
	for _, a := range actions() {
		for _, sig := range anything() {
			effects(t, a, sig, effectOf(a, sig))
		}
	}
	right, _ := hows()
	for _, sig := range numbers() {
		for _, how := range right {
			for _, other := range right {
				a := alike(other)
				a[sig] = how
				effects(t, a, sig, effectOf(a, sig))
			}
		}
	}
}

// P18.3: what was acted is what comes of it.
func TestActThenEffect(t *testing.T) {
	random := rand.New(rand.NewSource(3))
	var a, want sigset.Actions
	for range 3000 {
		sig, how := random.Intn(32), random.Intn(5)-1
		next, e := sigset.Act(a, sig, how)
		if e == api.OK {
			a = next
			want[sig] = how
		}
		if a != want {
			t.Fatalf("Act of %d, %d: %v, not %v", sig, how, a, want)
		}
		for _, sig := range numbers() {
			effects(t, a, sig, effectOf(want, sig))
		}
	}
}

// P18.4: KILL, STOP and CONT go ahead of all others, which rise; what the mask has stays.
func TestPickEdges(t *testing.T) {
	of := sigset.Of
	for _, x := range []struct {
		pending, mask sigset.Set
		want          int
		ok            bool
	}{
		{0, 0, 0, false},
		{0, whole(), 0, false},
		{whole(), 0, kill, true},
		{whole(), whole(), kill, true},
		{whole().Del(kill), 0, stop, true},
		{whole().Del(kill), math.MaxUint64, stop, true},
		{whole().Del(kill).Del(stop), 0, cont, true},
		{whole().Del(kill).Del(stop), of(cont), first, true},
		{whole().Del(kill).Del(stop).Del(cont), 0, first, true},
		{whole().Del(kill).Del(stop), whole(), 0, false},
		{whole().Del(kill).Del(stop), whole().Del(last), last, true},
		{of(2, 15), 0, 2, true},
		{of(2, 15), of(2), 15, true},
		{of(2, 15), of(15), 2, true},
		{of(2, 15), of(2, 15), 0, false},
		{of(2, 15), of(1, 3, 28), 2, true},
		{of(first, cont), 0, cont, true},
		{of(first, cont), of(cont), first, true},
		{of(cont, stop), 0, stop, true},
		{of(cont, stop), of(stop), stop, true},
		{of(cont, kill), of(kill), kill, true},
		{of(stop, kill), of(stop, kill), kill, true},
		{of(stop), of(stop), stop, true},
		{of(kill), of(kill), kill, true},
		{of(20, last), 0, 20, true},
		{of(last), 0, last, true},
		{1, 0, 0, false},
		{1 << 16, 0, 0, false},
		{1 << 29, 0, 0, false},
		{1 << 63, 0, 0, false},
		{^whole(), 0, 0, false},
		{^whole() | 1<<last, 0, last, true},
		{of(2), ^whole(), 2, true},
		{math.MaxUint64, math.MaxUint64, kill, true},
	} {
		picks(t, x.pending, x.mask, x.want, x.ok)
	}
}

// P18.4: any set under any mask.
func TestPick(t *testing.T) {
	l := sets()
	for i, pending := range l {
		for _, mask := range l[i%3:] {
			want, ok := pickOf(pending, mask)
			picks(t, pending, mask, want, ok)
		}
	}
	for _, sig := range numbers() {
		for _, other := range numbers() {
			pending := sigset.Set(1<<sig | 1<<other)
			for _, mask := range []sigset.Set{0, 1 << sig, 1 << other, pending, ^pending, whole() &^ (1 << sig)} {
				want, ok := pickOf(pending, mask)
				picks(t, pending, mask, want, ok)
			}
		}
	}
}

// P18.5: names and numbers are told of one another.
func TestNamesBack(t *testing.T) {
	for sig := -1000; sig < 1000; sig++ {
		name, ok := sigset.Name(sig)
		back, is := sigset.Number(name)
		if ok != slices.Contains(numbers(), sig) || is != ok || ok && back != sig {
			t.Errorf("%d: %q, %t, and back %d, %t", sig, name, ok, back, is)
		}
	}
}

// P18.5: nothing keeps KILL and STOP off, and what is picked is pending.
func TestNothingKeepsOff(t *testing.T) {
	l := sets()
	for i, pending := range l {
		for _, mask := range l[i%3:] {
			sig, ok := sigset.Pick(pending, mask)
			if ok != pending.Has(sig) || ok && sigset.Block(mask).Has(sig) {
				t.Fatalf("Pick of %x under %x: %d, %t", pending, mask, sig, ok)
			}
			picks(t, pending.Add(kill), mask, kill, true)
			picks(t, pending.Del(kill).Add(stop), mask, stop, true)
			if sigset.Block(mask).Has(kill) || sigset.Block(mask).Has(stop) {
				t.Fatalf("Block of %x keeps KILL or STOP off", mask)
			}
		}
	}
	for _, a := range actions() {
		effects(t, a, kill, dies)
		effects(t, a, stop, stops)
	}
}

// P18.5: a set is the set of its list, but for bits that are no signal.
func TestSetOfItsList(t *testing.T) {
	for _, s := range sets() {
		if got := sigset.Of(s.List()...); got != s&whole() {
			t.Fatalf("%x is of its list %x", s, got)
		}
	}
}

// P18.4, P18.5: what is picked one by one is all that is pending, but for what the mask has, which stays.
func TestPickedOneByOne(t *testing.T) {
	l := sets()
	for i, pending := range l {
		mask := l[i*7%len(l)]
		left := pending
		var picked []int
		for range 65 {
			sig, ok := sigset.Pick(left, mask)
			if !ok {
				break
			}
			picked = append(picked, sig)
			left = left.Del(sig)
		}
		slices.Sort(picked)
		if want := members(pending &^ sigset.Block(mask)); !slices.Equal(picked, want) {
			t.Fatalf("picked of %x under %x: %v, not %v", pending, mask, picked, want)
		}
		if want := members(pending & sigset.Block(mask)); !slices.Equal(left.List(), want) {
			t.Fatalf("left of %x under %x: %v, not %v", pending, mask, left.List(), want)
		}
	}
}
