package flow_test

import (
	"bytes"
	"math"
	"math/rand"
	"slices"
	"testing"

	"parlour/api"
	"parlour/flow"
	"parlour/modes"
)

// The opcodes that this layer asks, and a program's wishes, as the document says them.
const (
	vstart = 8
	vstop  = 9
	ixon   = 38
	ixany  = 39
	ixoff  = 40

	outOff = 1
	outOn  = 2
	inOff  = 3
	inOn   = 4
)

var asked = []int{ixon, ixany, ixoff}

// with is a setting with those characters and those flags on, and nothing else.
func with(start, stop byte, ops ...int) api.Termios {
	var t api.Termios
	t.Chars[vstart], t.Chars[vstop] = start, stop
	for _, op := range ops {
		t.Flags |= 1 << (op - 30)
	}
	return t
}

// usual is a setting with the default's characters and those flags on, and nothing else.
func usual(ops ...int) api.Termios { return with(0x11, 0x13, ops...) }

// on says whether a flag is on.
func on(t api.Termios, op int) bool { return t.Flags>>(op-30)&1 == 1 }

// characters is what VSTART and VSTOP may be: bytes apart from one another, the same one, the ends of bytes, and none.
func characters() [][2]byte {
	return [][2]byte{{0x11, 0x13}, {0x13, 0x11}, {'q', 'q'}, {0, 0}, {0, 254}, {254, 0}, {255, 0x13}, {0x11, 255}, {255, 0}, {0, 255}, {255, 255}}
}

// combinations is all ways in which the asked flags are on and off.
func combinations() [][]int {
	l := make([][]int, 1<<len(asked))
	for i := range l {
		for place, op := range asked {
			if i>>place&1 == 1 {
				l[i] = append(l[i], op)
			}
		}
	}
	return l
}

// others is settings that say all else in several ways, right ones and wrong ones, the asked flags off.
func others() []api.Termios {
	greatest := api.Termios{Flags: math.MaxUint64, In: math.MaxUint32, Out: math.MaxUint32, Min: math.MaxInt, Time: math.MaxInt}
	for op := range greatest.Chars {
		greatest.Chars[op] = 255
	}
	alike := api.Termios{Flags: 1<<63 | 1, Min: math.MinInt, Time: -1}
	for op := range alike.Chars {
		alike.Chars[op] = byte(0x11 + op%3)
	}
	l := []api.Termios{{}, modes.Default(), greatest, alike}
	for i := range l {
		l[i].Flags &^= usual(asked...).Flags
	}
	return l
}

// settings is each combination of the asked flags and characters, beside each way to say all else.
func settings() []api.Termios {
	var l []api.Termios
	for _, other := range others() {
		for _, c := range characters() {
			for _, ops := range combinations() {
				t := other
				t.Flags |= usual(ops...).Flags
				t.Chars[vstart], t.Chars[vstop] = c[0], c[1]
				l = append(l, t)
			}
		}
	}
	return l
}

// flows is each flow that there is.
func flows() []flow.Flow {
	return []flow.Flow{{}, {Stopped: true}, {Held: true}, {Stopped: true, Held: true}}
}

// each is each byte once, the least first.
func each() []byte {
	b := make([]byte, 256)
	for i := range b {
		b[i] = byte(i)
	}
	return b
}

// edges is numbers around 0 and at the ends.
func edges() []int {
	return []int{math.MinInt, math.MinInt + 1, -9, -1, 0, 1, 2, 3, 7, 8, 9, math.MaxInt - 1, math.MaxInt}
}

// told is a character as it is told, as the document says it.
func told(t api.Termios, op int) []byte {
	if t.Chars[op] == 255 {
		return nil
	}
	return []byte{t.Chars[op]}
}

// typedOf is Typed as the document says it.
func typedOf(t api.Termios, f flow.Flow, c byte) (flow.Flow, bool) {
	if !on(t, ixon) {
		return f, false
	}
	isStart := c != 255 && t.Chars[vstart] == c
	isStop := c != 255 && t.Chars[vstop] == c
	if isStart && isStop {
		return flow.Flow{Stopped: !f.Stopped, Held: f.Held}, true
	}
	if isStart {
		return flow.Flow{Stopped: false, Held: f.Held}, true
	}
	if isStop {
		return flow.Flow{Stopped: true, Held: f.Held}, true
	}
	if on(t, ixany) {
		return flow.Flow{Stopped: false, Held: f.Held}, false
	}
	return f, false
}

// markOf is Mark as the document says it.
func markOf(t api.Termios, f flow.Flow, used, low, high int) (flow.Flow, []byte) {
	if !f.Held {
		if on(t, ixoff) && used >= high {
			return flow.Flow{Stopped: f.Stopped, Held: true}, told(t, vstop)
		}
		return f, nil
	}
	if used > low {
		return f, nil
	}
	started := flow.Flow{Stopped: f.Stopped}
	if on(t, ixoff) {
		return started, told(t, vstart)
	}
	return started, nil
}

// askOf is Ask as the document says it.
func askOf(t api.Termios, f flow.Flow, what int) (flow.Flow, []byte, api.Errno) {
	if what == outOff {
		return flow.Flow{Stopped: true, Held: f.Held}, nil, api.OK
	}
	if what == outOn {
		return flow.Flow{Stopped: false, Held: f.Held}, nil, api.OK
	}
	if what == inOff {
		return f, told(t, vstop), api.OK
	}
	if what == inOn {
		return f, told(t, vstart), api.OK
	}
	return flow.Flow{}, nil, api.ErrArg
}

// types checks what Typed answers.
func types(t *testing.T, s api.Termios, f flow.Flow, c byte, want flow.Flow, used bool) {
	t.Helper()
	if got, ok := flow.Typed(s, f, c); got != want || ok != used {
		t.Fatalf("%v: Typed of %v, %x: %v, %t, not %v, %t", s, f, c, got, ok, want, used)
	}
}

// marks checks what Mark answers.
func marks(t *testing.T, s api.Termios, f flow.Flow, used, low, high int, want flow.Flow, tells []byte) {
	t.Helper()
	if got, b := flow.Mark(s, f, used, low, high); got != want || !bytes.Equal(b, tells) {
		t.Fatalf("%v: Mark of %v, %d used, low %d, high %d: %v, %x, not %v, %x", s, f, used, low, high, got, b, want, tells)
	}
}

// asks checks what Ask answers.
func asks(t *testing.T, s api.Termios, f flow.Flow, what int, want flow.Flow, tells []byte, wantError api.Errno) {
	t.Helper()
	if got, b, e := flow.Ask(s, f, what); got != want || !bytes.Equal(b, tells) || e != wantError {
		t.Fatalf("%v: Ask of %v, %d: %v, %x, error %d, not %v, %x, error %d", s, f, what, got, b, e, want, tells, wantError)
	}
}

// The names of opcodes and wishes are the document's.
func TestNames(t *testing.T) {
	if !slices.Equal(asked, []int{api.IXON, api.IXANY, api.IXOFF}) || api.VSTART != vstart || api.VSTOP != vstop {
		t.Error("a flag or a character has another opcode")
	}
	if !slices.Equal([]int{outOff, outOn, inOff, inOn}, []int{flow.OutOff, flow.OutOn, flow.InOff, flow.InOn}) {
		t.Error("a wish has another number")
	}
}

// The document's examples.
func TestExamples(t *testing.T) {
	d := modes.Default()
	types(t, d, flow.Flow{}, 0x13, flow.Flow{Stopped: true}, true)
	types(t, d, flow.Flow{Stopped: true}, 0x11, flow.Flow{}, true)
	d = modes.Set(d, api.IXOFF, true)
	marks(t, d, flow.Flow{}, 8, 3, 8, flow.Flow{Held: true}, []byte{0x13})
	marks(t, d, flow.Flow{Held: true}, 3, 3, 8, flow.Flow{}, []byte{0x11})
}

// P15.1: what is typed, sort by sort; what the other end was told stays as it is.
func TestTypedEdges(t *testing.T) {
	for _, held := range []bool{false, true} {
		runs, stopped := flow.Flow{Held: held}, flow.Flow{Stopped: true, Held: held}
		for _, x := range []struct {
			t       api.Termios
			f       flow.Flow
			c       byte
			want    flow.Flow
			used    bool
			because string
		}{
			{usual(), runs, 0x13, runs, false, "there is no IXON"},
			{usual(), stopped, 0x11, stopped, false, "there is no IXON"},
			{usual(ixany), stopped, 'a', stopped, false, "IXANY alone is nothing"},
			{usual(ixoff), runs, 0x13, runs, false, "IXOFF is of marks alone"},
			{usual(ixon), runs, 0x13, stopped, true, "VSTOP stops"},
			{usual(ixon), stopped, 0x13, stopped, true, "VSTOP leaves it stopped"},
			{usual(ixon), stopped, 0x11, runs, true, "VSTART starts"},
			{usual(ixon), runs, 0x11, runs, true, "VSTART leaves it going"},
			{usual(ixon), runs, 'a', runs, false, "other bytes are nothing"},
			{usual(ixon), stopped, 'a', stopped, false, "other bytes are nothing"},
			{usual(ixon, ixany), stopped, 'a', runs, false, "any byte starts"},
			{usual(ixon, ixany), runs, 'a', runs, false, "no other byte stops"},
			{usual(ixon, ixany), stopped, 0x13, stopped, true, "VSTOP isn't any byte"},
			{usual(ixon, ixany), runs, 0x13, stopped, true, "VSTOP isn't any byte"},
			{usual(ixon, ixany), stopped, 0x11, runs, true, "VSTART is used up"},
			{with('q', 'q', ixon), runs, 'q', stopped, true, "it is both"},
			{with('q', 'q', ixon), stopped, 'q', runs, true, "it is both"},
			{with('q', 'q', ixon, ixany), runs, 'q', stopped, true, "it is both"},
			{with('q', 'q', ixon, ixany), stopped, 'q', runs, true, "it is both"},
			{with('q', 'q', ixany), stopped, 'q', stopped, false, "there is no IXON"},
			{with(0, 0, ixon), runs, 0, stopped, true, "0 may be a character"},
			{with(255, 255, ixon), runs, 255, runs, false, "there are no characters"},
			{with(255, 255, ixon), stopped, 255, stopped, false, "there are no characters"},
			{with(255, 255, ixon, ixany), stopped, 255, runs, false, "255 is any byte"},
			{with(0x11, 255, ixon), runs, 255, runs, false, "there is no VSTOP"},
			{with(255, 0x13, ixon), stopped, 255, stopped, false, "there is no VSTART"},
			{with(255, 0x13, ixon), runs, 0x13, stopped, true, "there is VSTOP"},
			{with(0x11, 255, ixon), stopped, 0x11, runs, true, "there is VSTART"},
		} {
			if got, used := flow.Typed(x.t, x.f, x.c); got != x.want || used != x.used {
				t.Errorf("Typed of %v, %x, where %s: %v, %t", x.f, x.c, x.because, got, used)
			}
		}
	}
}

// P15.1: each byte does what IXON, IXANY, VSTART and VSTOP say, and nothing else of a setting.
func TestTyped(t *testing.T) {
	for _, s := range settings() {
		for _, f := range flows() {
			for _, c := range each() {
				want, used := typedOf(s, f, c)
				types(t, s, f, c, want, used)
			}
		}
	}
}

// P15.2: what is told at the marks and beside them; what is Stopped stays as it is.
func TestMarkEdges(t *testing.T) {
	stop, start := []byte{0x13}, []byte{0x11}
	for _, stopped := range []bool{false, true} {
		free, held := flow.Flow{Stopped: stopped}, flow.Flow{Stopped: stopped, Held: true}
		for _, x := range []struct {
			t               api.Termios
			f               flow.Flow
			used, low, high int
			want            flow.Flow
			tells           []byte
		}{
			{usual(ixoff), free, 7, 3, 8, free, nil},
			{usual(ixoff), free, 8, 3, 8, held, stop},
			{usual(ixoff), free, 9, 3, 8, held, stop},
			{usual(ixoff), free, 0, 3, 8, free, nil},
			{usual(ixoff), held, 9, 3, 8, held, nil},
			{usual(ixoff), held, 8, 3, 8, held, nil},
			{usual(ixoff), held, 4, 3, 8, held, nil},
			{usual(ixoff), held, 3, 3, 8, free, start},
			{usual(ixoff), held, 2, 3, 8, free, start},
			{usual(ixoff), held, 0, 0, 1, free, start},
			{usual(), free, 8, 3, 8, free, nil},
			{usual(), free, math.MaxInt, 3, 8, free, nil},
			{usual(), held, 4, 3, 8, held, nil},
			{usual(), held, 3, 3, 8, free, nil},
			{usual(ixon, ixany), free, 8, 3, 8, free, nil},
			{usual(ixon, ixany), held, 3, 3, 8, free, nil},
			{with(0x11, 255, ixoff), free, 8, 3, 8, held, nil},
			{with(0x11, 255, ixoff), held, 3, 3, 8, free, start},
			{with(255, 0x13, ixoff), free, 8, 3, 8, held, stop},
			{with(255, 0x13, ixoff), held, 3, 3, 8, free, nil},
			{with(0, 0, ixoff), free, 8, 3, 8, held, []byte{0}},
			{with(0, 0, ixoff), held, 3, 3, 8, free, []byte{0}},
			{usual(ixoff), free, 5, 5, 5, held, stop},
			{usual(ixoff), held, 5, 5, 5, free, start},
			{usual(ixoff), free, 5, 8, 3, held, stop},
			{usual(ixoff), held, 5, 8, 3, free, start},
			{usual(ixoff), free, 0, 0, 0, held, stop},
			{usual(ixoff), free, -1, -3, -1, held, stop},
			{usual(ixoff), free, -2, -3, -1, free, nil},
			{usual(ixoff), held, -2, -3, -1, held, nil},
			{usual(ixoff), held, -3, -3, -1, free, start},
			{usual(ixoff), free, math.MinInt, 0, math.MinInt, held, stop},
			{usual(ixoff), free, math.MinInt, 0, math.MaxInt, free, nil},
			{usual(ixoff), free, math.MaxInt, 0, math.MaxInt, held, stop},
			{usual(ixoff), free, math.MaxInt - 1, 0, math.MaxInt, free, nil},
			{usual(ixoff), held, math.MaxInt, math.MaxInt, 0, free, start},
			{usual(ixoff), held, math.MaxInt, math.MinInt, 0, held, nil},
			{usual(ixoff), held, math.MinInt, math.MinInt, 0, free, start},
			{usual(ixoff), held, math.MinInt + 1, math.MinInt, 0, held, nil},
		} {
			marks(t, x.t, x.f, x.used, x.low, x.high, x.want, x.tells)
		}
	}
}

// P15.2: what waits is told by IXOFF, VSTART and VSTOP, and by nothing else of a setting, at all marks.
func TestMark(t *testing.T) {
	for _, s := range settings() {
		for _, f := range flows() {
			for used := -1; used <= 4; used++ {
				for low := -1; low <= 4; low++ {
					for high := -1; high <= 4; high++ {
						want, tells := markOf(s, f, used, low, high)
						marks(t, s, f, used, low, high, want, tells)
					}
				}
			}
		}
	}
}

// P15.2: marks at the ends of numbers, and any ones.
func TestAnyMarks(t *testing.T) {
	random := rand.New(rand.NewSource(152))
	number := func() int {
		return []int{random.Intn(20) - 10, random.Intn(2000), int(random.Uint64())}[random.Intn(3)]
	}
	for _, s := range []api.Termios{usual(), usual(ixoff), usual(asked...), with(255, 255, ixoff)} {
		for _, f := range flows() {
			for _, used := range edges() {
				for _, low := range edges() {
					for _, high := range edges() {
						want, tells := markOf(s, f, used, low, high)
						marks(t, s, f, used, low, high, want, tells)
					}
				}
			}
			for range 20000 {
				used, low, high := number(), number(), number()
				want, tells := markOf(s, f, used, low, high)
				marks(t, s, f, used, low, high, want, tells)
			}
		}
	}
}

// P15.3: what a program asks, whether the flags are on or not.
func TestAskEdges(t *testing.T) {
	for _, s := range []api.Termios{usual(), usual(ixon), usual(ixoff), usual(asked...)} {
		for _, held := range []bool{false, true} {
			runs, stopped := flow.Flow{Held: held}, flow.Flow{Stopped: true, Held: held}
			for _, f := range []flow.Flow{runs, stopped} {
				asks(t, s, f, outOff, stopped, nil, api.OK)
				asks(t, s, f, outOn, runs, nil, api.OK)
				asks(t, s, f, inOff, f, []byte{0x13}, api.OK)
				asks(t, s, f, inOn, f, []byte{0x11}, api.OK)
			}
		}
	}
	for _, f := range flows() {
		asks(t, with(255, 0x13), f, inOff, f, []byte{0x13}, api.OK)
		asks(t, with(255, 0x13), f, inOn, f, nil, api.OK)
		asks(t, with(0x11, 255), f, inOff, f, nil, api.OK)
		asks(t, with(0x11, 255), f, inOn, f, []byte{0x11}, api.OK)
		asks(t, with(0, 0), f, inOff, f, []byte{0}, api.OK)
		asks(t, with(0, 0), f, inOn, f, []byte{0}, api.OK)
		asks(t, with('q', 'q'), f, inOff, f, []byte{'q'}, api.OK)
		asks(t, with('q', 'q'), f, inOn, f, []byte{'q'}, api.OK)
	}
}

// P15.3: each wish is told by VSTART and VSTOP, and by nothing else of a setting; other numbers are no wishes.
func TestAsk(t *testing.T) {
	wrong := []int{math.MinInt, math.MinInt + 1, math.MinInt32, -256, -255, -4, -3, -2, -1, 0, 5, 6, 7, 8, 255, 256, 257, 258, 259, 260, 1<<16 + 1, 1<<32 + 1, 1<<32 + 4, math.MaxInt32, math.MaxInt}
	for _, s := range settings() {
		for _, f := range flows() {
			for _, what := range append([]int{outOff, outOn, inOff, inOn}, wrong...) {
				want, tells, e := askOf(s, f, what)
				asks(t, s, f, what, want, tells, e)
			}
		}
	}
}

// P15.4: with low less than high the other end is told to stop and to start in turns, a stop first.
func TestInTurns(t *testing.T) {
	random := rand.New(rand.NewSource(154))
	for range 500 {
		low := random.Intn(20) - 5
		high := low + 1 + random.Intn(9)
		s, f, next := usual(ixoff), flow.Flow{Stopped: random.Intn(2) == 0}, byte(0x13)
		for range 60 {
			used := low - 4 + random.Intn(high-low+9)
			g, b := flow.Mark(s, f, used, low, high)
			if len(b) > 1 || len(b) == 1 && b[0] != next || len(b) == 1 != (g.Held != f.Held) {
				t.Fatalf("low %d, high %d, %v, %d used: %v, %x, when %x is next", low, high, f, used, g, b, next)
			}
			if again, more := flow.Mark(s, g, used, low, high); again != g || len(more) != 0 {
				t.Fatalf("low %d, high %d, %v, %d used again: %v, %x", low, high, g, used, again, more)
			}
			if len(b) == 1 {
				next ^= 0x13 ^ 0x11
			}
			f = g
		}
	}
}

// P15.4: without IXON nothing that is typed stops anything, nor starts it.
func TestNothingStops(t *testing.T) {
	for _, s := range settings() {
		if on(s, ixon) {
			continue
		}
		for _, f := range flows() {
			for _, c := range each() {
				types(t, s, f, c, f, false)
			}
		}
	}
}

// isStart says whether a byte that is typed starts output that is stopped.
func isStart(t api.Termios, c byte) bool {
	is := c != 255 && c == t.Chars[vstart]
	stops := c != 255 && c == t.Chars[vstop]
	return on(t, ixon) && (is || !stops && on(t, ixany))
}

// P15.4: what is Stopped stays so until it is started, whatever else is typed, waits and is asked.
func TestStaysStopped(t *testing.T) {
	random := rand.New(rand.NewSource(415))
	for _, s := range settings() {
		f, _, _ := flow.Ask(s, flow.Flow{}, outOff)
		for range 100 {
			before := f
			switch c := anyByte(random, s); random.Intn(3) {
			case 0:
				if isStart(s, c) {
					types(t, s, f, c, flow.Flow{Held: f.Held}, c != 255 && c == s.Chars[vstart])
					continue
				}
				f, _ = flow.Typed(s, f, c)
			case 1:
				f, _ = flow.Mark(s, f, random.Intn(12), 3, 8)
			case 2:
				f, _, _ = flow.Ask(s, f, []int{outOff, inOff, inOn}[random.Intn(3)])
			}
			if !f.Stopped {
				t.Fatalf("%v: %v was started", s, before)
			}
		}
		asks(t, s, f, outOn, flow.Flow{Held: f.Held}, nil, api.OK)
	}
}

// anyByte is any byte, the characters that mean something often among them.
func anyByte(random *rand.Rand, t api.Termios) byte {
	return []byte{byte(random.Intn(256)), 255, t.Chars[vstart], t.Chars[vstop]}[random.Intn(4)]
}

// Scripts of bytes, marks and wishes go as the document says, step by step.
func TestScripts(t *testing.T) {
	random := rand.New(rand.NewSource(15))
	l := settings()
	for range 2000 {
		f := flows()[random.Intn(4)]
		s := l[random.Intn(len(l))]
		for range 50 {
			if random.Intn(10) == 0 {
				s = l[random.Intn(len(l))]
			}
			before := f
			switch random.Intn(3) {
			case 0:
				c := anyByte(random, s)
				var used bool
				f, used = typedOf(s, f, c)
				types(t, s, before, c, f, used)
			case 1:
				used, low, high := random.Intn(12), random.Intn(12), random.Intn(12)
				var tells []byte
				f, tells = markOf(s, f, used, low, high)
				marks(t, s, before, used, low, high, f, tells)
			case 2:
				what := 1 + random.Intn(4)
				var tells []byte
				var e api.Errno
				f, tells, e = askOf(s, f, what)
				asks(t, s, before, what, f, tells, e)
			}
		}
	}
}

// Answers share no memory with one another, their spare room included.
func TestAnswersApart(t *testing.T) {
	s := usual(ixoff)
	calls := []func() []byte{
		func() []byte { _, b := flow.Mark(s, flow.Flow{}, 8, 3, 8); return b },
		func() []byte { _, b := flow.Mark(s, flow.Flow{Held: true}, 3, 3, 8); return b },
		func() []byte { _, b, _ := flow.Ask(s, flow.Flow{}, inOff); return b },
		func() []byte { _, b, _ := flow.Ask(s, flow.Flow{}, inOn); return b },
	}
	for i, call := range calls {
		want := []byte{[]byte{0x13, 0x11}[i%2]}
		first, second := call(), call()
		first = first[:cap(first)]
		for place := range first {
			first[place] ^= 0xff
		}
		if third := call(); !bytes.Equal(second, want) || !bytes.Equal(third, want) {
			t.Errorf("answers of call %d share memory: %x, %x", i, second, third)
		}
	}
}
