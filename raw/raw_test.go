package raw_test

import (
	"math"
	"math/rand"
	"slices"
	"testing"

	"parlour/raw"
)

// numbers is what a read is asked with: min, time, have, want, idle and waited.
type numbers [6]int

const (
	atMin = iota
	atTime
	atHave
	atWant
	atIdle
	atWaited
)

// ready and wait are the calls, of numbers in an array.
func ready(x numbers) (int, bool) { return raw.Ready(x[0], x[1], x[2], x[3], x[4], x[5]) }
func wait(x numbers) (int, bool)  { return raw.Wait(x[0], x[1], x[2], x[3], x[4], x[5]) }

// taken is the numbers as they are taken: those below 0 for 0.
func taken(x numbers) numbers {
	for i := range x {
		x[i] = max(x[i], 0)
	}
	return x
}

// sum is two numbers together, or the greatest there is.
func sum(a, b int) int {
	if a > math.MaxInt-b {
		return math.MaxInt
	}
	return a + b
}

// later is the read some ticks later, if nothing comes.
func later(x numbers, ticks int) numbers {
	x = taken(x)
	x[atIdle], x[atWaited] = sum(x[atIdle], ticks), sum(x[atWaited], ticks)
	return x
}

// readyOf is Ready as the document says it.
func readyOf(x numbers) (int, bool) {
	x = taken(x)
	least, time, have, want, idle, waited := x[0], x[1], x[2], x[3], x[4], x[5]
	lesser := have
	if want < have {
		lesser = want
	}
	if want == 0 {
		return 0, true
	}
	if least > 0 && (have >= least || have >= want || time > 0 && have > 0 && idle >= time) {
		return lesser, true
	}
	if least == 0 && time == 0 {
		return lesser, true
	}
	if least == 0 && time > 0 && (have > 0 || waited >= time) {
		return lesser, true
	}
	return 0, false
}

// isReadyOf says whether a read is done, as the document says it.
func isReadyOf(x numbers) bool {
	_, ok := readyOf(x)
	return ok
}

// waits checks what Wait answers against the read's being done at that tick, and not at the one ahead of it.
func waits(t *testing.T, x numbers) {
	t.Helper()
	ticks, ever := wait(x)
	switch {
	case !ever && ticks != 0, ticks < 0:
		t.Fatalf("Wait of %v: %d, %t", x, ticks, ever)
	case !ever && isReadyOf(later(x, math.MaxInt)):
		t.Fatalf("Wait of %v: never, but time makes it done", x)
	case ever && !isReadyOf(later(x, ticks)):
		t.Fatalf("Wait of %v: %d, when it isn't done", x, ticks)
	case ticks > 0 && isReadyOf(later(x, ticks-1)):
		t.Fatalf("Wait of %v: %d, when it is done already", x, ticks)
	}
}

// readies checks what Ready answers against the document's words.
func readies(t *testing.T, x numbers) {
	t.Helper()
	want, done := readyOf(x)
	if n, ok := ready(x); n != want || ok != done {
		t.Fatalf("Ready of %v: %d, %t, not %d, %t", x, n, ok, want, done)
	}
}

// each calls a function with all numbers whose members are among those.
func each(members []int, call func(numbers)) {
	var x numbers
	var fill func(place int)
	fill = func(place int) {
		if place == len(x) {
			call(x)
			return
		}
		for _, n := range members {
			x[place] = n
			fill(place + 1)
		}
	}
	fill(0)
}

// small and edges are what numbers are made of.
func small() []int { return []int{-1, 0, 1, 2, 3, 4} }
func edges() []int {
	return []int{math.MinInt, math.MinInt + 1, -1, 0, 1, 2, math.MaxInt - 1, math.MaxInt}
}

// anyNumbers is numbers near one another, so that each is now below and now above another.
func anyNumbers(random *rand.Rand) numbers {
	var x numbers
	most := []int{4, 300, math.MaxInt32}[random.Intn(3)]
	for i := range x {
		x[i] = random.Intn(most)
		if random.Intn(6) == 0 {
			x[i] = []int{0, 0, -x[i], math.MaxInt - x[i], math.MinInt + x[i]}[random.Intn(5)]
		}
	}
	return x
}

// tells checks what both calls answer of numbers.
func tells(t *testing.T, x numbers, n int, done bool, ticks int, ever bool) {
	t.Helper()
	if got, ok := ready(x); got != n || ok != done {
		t.Errorf("Ready of %v: %d, %t, not %d, %t", x, got, ok, n, done)
	}
	if got, ok := wait(x); got != ticks || ok != ever {
		t.Errorf("Wait of %v: %d, %t, not %d, %t", x, got, ok, ticks, ever)
	}
}

// is checks that a read is done, with so many bytes.
func is(t *testing.T, x numbers, n int) {
	t.Helper()
	tells(t, x, n, true, 0, true)
}

// isIn checks that a read isn't done, and will be in so many ticks.
func isIn(t *testing.T, x numbers, ticks int) {
	t.Helper()
	tells(t, x, 0, false, ticks, true)
}

// isNever checks that a read isn't done, and no time makes it so.
func isNever(t *testing.T, x numbers) {
	t.Helper()
	tells(t, x, 0, false, 0, false)
}

// The document's examples.
func TestExamples(t *testing.T) {
	for _, n := range []int{0, 1, 99, math.MaxInt} {
		isNever(t, numbers{1, 0, 0, 2, n, n})
	}
	is(t, numbers{1, 0, 3, 2, 0, 0}, 2)
	is(t, numbers{0, 5, 0, 9, 0, 5}, 0)
	isIn(t, numbers{0, 5, 0, 9, 0, 4}, 1)
	isIn(t, numbers{4, 2, 3, 9, 1, 0}, 1)
}

// P14.1 and P14.2: a read that wants nothing, or less, is done with nothing, whatever else there is.
func TestNothingWanted(t *testing.T) {
	for _, want := range []int{math.MinInt, -9, -1, 0} {
		for _, least := range edges() {
			for _, time := range edges() {
				for _, have := range edges() {
					is(t, numbers{least, time, have, want, 0, 0}, 0)
					is(t, numbers{least, time, have, want, 9, 9}, 0)
				}
			}
		}
	}
}

// P14.1 and P14.2: with min alone, a read is done when there are min bytes, or as many as it wants, and no time makes it so.
func TestMinAlone(t *testing.T) {
	for _, time := range []int{0, -1, math.MinInt} {
		for _, n := range []int{0, 5, math.MaxInt} {
			isNever(t, numbers{4, time, 0, 9, n, n})
			isNever(t, numbers{4, time, 3, 9, n, n})
			is(t, numbers{4, time, 4, 9, n, n}, 4)
			is(t, numbers{4, time, 5, 9, n, n}, 5)
			is(t, numbers{4, time, 9, 9, n, n}, 9)
			is(t, numbers{4, time, 10, 9, n, n}, 9)
			isNever(t, numbers{4, time, 2, 3, n, n})
			is(t, numbers{4, time, 3, 3, n, n}, 3)
			is(t, numbers{4, time, 4, 3, n, n}, 3)
			isNever(t, numbers{math.MaxInt, time, math.MaxInt - 1, math.MaxInt, n, n})
			is(t, numbers{math.MaxInt, time, math.MaxInt, math.MaxInt, n, n}, math.MaxInt)
		}
	}
}

// P14.1 and P14.2: with min and time, a read is done when there are enough bytes, too, or when none has come for some time behind the last one.
func TestMinAndTime(t *testing.T) {
	for _, waited := range []int{math.MinInt, 0, 5, math.MaxInt} {
		is(t, numbers{4, 2, 4, 9, 0, waited}, 4)
		is(t, numbers{4, 2, 9, 5, 0, waited}, 5)
		is(t, numbers{4, 2, 3, 3, 0, waited}, 3)
		is(t, numbers{4, 2, 3, 9, 2, waited}, 3)
		is(t, numbers{4, 2, 3, 9, 3, waited}, 3)
		is(t, numbers{4, 2, 1, 9, 2, waited}, 1)
		is(t, numbers{4, 2, 1, 9, math.MaxInt, waited}, 1)
		isIn(t, numbers{4, 2, 1, 9, 1, waited}, 1)
		isIn(t, numbers{4, 2, 3, 9, 0, waited}, 2)
		isIn(t, numbers{4, 2, 3, 9, -7, waited}, 2)
		isIn(t, numbers{4, math.MaxInt, 3, 9, math.MinInt, waited}, math.MaxInt)
		isIn(t, numbers{4, math.MaxInt, 3, 9, math.MaxInt - 1, waited}, 1)
		is(t, numbers{4, math.MaxInt, 3, 9, math.MaxInt, waited}, 3)
		for _, have := range []int{0, -1, math.MinInt} {
			isNever(t, numbers{4, 2, have, 9, 0, waited})
			isNever(t, numbers{4, 2, have, 9, 2, waited})
			isNever(t, numbers{4, 2, have, 9, math.MaxInt, waited})
		}
	}
}

// P14.1 and P14.2: with neither, a read is done at once.
func TestNeither(t *testing.T) {
	for _, none := range []int{0, -1, math.MinInt} {
		for _, n := range []int{math.MinInt, 0, 5, math.MaxInt} {
			is(t, numbers{none, none, 0, 9, n, n}, 0)
			is(t, numbers{none, none, -3, 9, n, n}, 0)
			is(t, numbers{none, none, 3, 9, n, n}, 3)
			is(t, numbers{none, none, 9, 3, n, n}, 3)
			is(t, numbers{none, none, math.MaxInt, math.MaxInt, n, n}, math.MaxInt)
		}
	}
}

// P14.1 and P14.2: with time alone, a read is done with any byte, or when some time has gone by since it began.
func TestTimeAlone(t *testing.T) {
	for _, least := range []int{0, -1, math.MinInt} {
		for _, idle := range []int{math.MinInt, 0, 5, math.MaxInt} {
			is(t, numbers{least, 5, 1, 9, idle, 0}, 1)
			is(t, numbers{least, 5, 9, 3, idle, 0}, 3)
			is(t, numbers{least, 5, 1, 9, idle, 5}, 1)
			is(t, numbers{least, 5, 0, 9, idle, 5}, 0)
			is(t, numbers{least, 5, 0, 9, idle, 6}, 0)
			is(t, numbers{least, 5, -1, 9, idle, math.MaxInt}, 0)
			isIn(t, numbers{least, 5, 0, 9, idle, 4}, 1)
			isIn(t, numbers{least, 5, 0, 9, idle, 0}, 5)
			isIn(t, numbers{least, 5, -1, 9, idle, -1}, 5)
			isIn(t, numbers{least, math.MaxInt, 0, 9, idle, math.MinInt}, math.MaxInt)
			isIn(t, numbers{least, math.MaxInt, 0, 9, idle, math.MaxInt - 1}, 1)
			is(t, numbers{least, math.MaxInt, 0, 9, idle, math.MaxInt}, 0)
		}
	}
}

// P14.1: of all small numbers, of those at the ends, and of any.
func TestReady(t *testing.T) {
	each(small(), func(x numbers) { readies(t, x) })
	each(edges(), func(x numbers) { readies(t, x) })
	random := rand.New(rand.NewSource(141))
	for range 200000 {
		readies(t, anyNumbers(random))
	}
}

// P14.2: of all small numbers, of those at the ends, and of any.
func TestWait(t *testing.T) {
	each(small(), func(x numbers) { waits(t, x) })
	each(edges(), func(x numbers) { waits(t, x) })
	random := rand.New(rand.NewSource(142))
	for range 200000 {
		waits(t, anyNumbers(random))
	}
}

// P14.1 and P14.2: both calls say the same: a read is done just when there is nothing to wait for.
func TestReadyAndWait(t *testing.T) {
	agree := func(x numbers) {
		n, done := ready(x)
		ticks, ever := wait(x)
		if done != (ever && ticks == 0) || !done && n != 0 {
			t.Fatalf("%v: %d, %t; %d, %t", x, n, done, ticks, ever)
		}
		if then, ok := ready(later(x, ticks)); ok != ever || then > max(0, x[atHave]) {
			t.Fatalf("%v, %d ticks later: %d, %t, not %t", x, ticks, then, ok, ever)
		}
	}
	each(small(), agree)
	each(edges(), agree)
}

// A number below 0 is taken for 0, whichever it is.
func TestBelowNothing(t *testing.T) {
	for _, below := range []int{-1, -2, -1 << 31, math.MinInt + 1, math.MinInt} {
		each([]int{-1, 0, 1, 3}, func(x numbers) {
			as := taken(x)
			for i := range x {
				if x[i] < 0 {
					x[i] = below
				}
			}
			n, done := ready(as)
			ticks, ever := wait(as)
			tells(t, x, n, done, ticks, ever)
		})
	}
}

// P14.3: a read that is done has never more than want bytes, nor than there are.
func TestNoMore(t *testing.T) {
	bounded := func(x numbers) {
		if n, _ := ready(x); n < 0 || n > max(0, x[atWant]) || n > max(0, x[atHave]) {
			t.Fatalf("Ready of %v: %d", x, n)
		}
	}
	each(small(), bounded)
	each(edges(), bounded)
}

// P14.3: a read that is done stays done with more bytes there, and with more time gone by.
func TestStaysDone(t *testing.T) {
	stays := func(x numbers, more int) {
		n, done := ready(x)
		if !done {
			return
		}
		x = taken(x)
		for _, place := range []int{atHave, atIdle, atWaited} {
			grown := x
			grown[place] = sum(x[place], more)
			then, still := ready(grown)
			if !still || then < n || place != atHave && then != n {
				t.Fatalf("%v is done with %d, %v with %d, %t", x, n, grown, then, still)
			}
		}
	}
	for _, more := range []int{1, 2, 7, math.MaxInt} {
		each(small(), func(x numbers) { stays(x, more) })
	}
	random := rand.New(rand.NewSource(143))
	for range 100000 {
		stays(anyNumbers(random), random.Intn(400))
	}
}

// P14.3: with time 0 no time makes a read done.
func TestNoTime(t *testing.T) {
	each(small(), func(x numbers) {
		if x[atTime] > 0 {
			return
		}
		n, done := ready(x)
		if ticks, ever := wait(x); ticks != 0 || ever != done {
			t.Fatalf("Wait of %v: %d, %t", x, ticks, ever)
		}
		for _, ticks := range []int{1, 5, math.MaxInt} {
			if then, ok := ready(later(x, ticks)); then != n || ok != done {
				t.Fatalf("%v: %d, %t, and %d ticks later %d, %t", x, n, done, ticks, then, ok)
			}
		}
	})
}

// typed is a read that goes on by ticks, with so many bytes that come ahead of each: the tick at which it is done, and with how many bytes.
func typed(least, time, want int, come []int) (tick, n int, done bool) {
	x := numbers{least, time, 0, want, 0, 0}
	for tick, more := range come {
		if more > 0 {
			x[atHave], x[atIdle] = x[atHave]+more, 0
		}
		if n, done := ready(x); done {
			return tick, n, true
		}
		x = later(x, 1)
	}
	return 0, 0, false
}

// P14.1: reads to which bytes come as time goes by.
func TestTyped(t *testing.T) {
	for _, x := range []struct {
		least, time, want int
		come              []int
		tick, n           int
		done              bool
	}{
		{1, 0, 9, []int{0, 0, 0, 2}, 3, 2, true}, {3, 0, 9, []int{1, 0, 1, 0, 0, 1}, 5, 3, true}, {3, 0, 2, []int{1, 0, 1, 0, 0, 1}, 2, 2, true}, {3, 0, 9, []int{1, 1, 0, 0, 0, 0}, 0, 0, false},
		{5, 2, 9, []int{0, 0, 0, 1, 0, 1, 0, 0}, 7, 2, true}, {5, 2, 9, []int{0, 0, 0, 0, 0, 0}, 0, 0, false}, {5, 2, 9, []int{1, 0, 1, 0, 1, 0, 1, 0, 1}, 8, 5, true}, {5, 2, 2, []int{1, 0, 1, 0}, 2, 2, true},
		{0, 0, 9, []int{0, 1}, 0, 0, true}, {0, 0, 2, []int{3}, 0, 2, true},
		{0, 3, 9, []int{0, 0, 0, 0, 0}, 3, 0, true}, {0, 3, 9, []int{0, 0, 2, 0, 0}, 2, 2, true}, {0, 3, 9, []int{0, 0, 0, 5}, 3, 5, true}, {0, 3, 4, []int{5}, 0, 4, true},
	} {
		if tick, n, done := typed(x.least, x.time, x.want, x.come); tick != x.tick || n != x.n || done != x.done {
			t.Errorf("min %d, time %d, want %d, bytes %v: %d, %d, %t", x.least, x.time, x.want, x.come, tick, n, done)
		}
	}
}

// What is answered hangs on the numbers alone: calls in any order, and again, answer the same.
func TestAgain(t *testing.T) {
	random := rand.New(rand.NewSource(144))
	type answer struct {
		n, ticks   int
		done, ever bool
	}
	answerOf := func(x numbers) (a answer) {
		a.n, a.done = ready(x)
		a.ticks, a.ever = wait(x)
		return a
	}
	asked := make([]numbers, 500)
	answers := make([]answer, len(asked))
	for i := range asked {
		asked[i] = anyNumbers(random)
		answers[i] = answerOf(asked[i])
	}
	for i, x := range slices.Backward(asked) {
		if got := answerOf(x); got != answers[i] {
			t.Fatalf("%v: %v, then %v", x, answers[i], got)
		}
	}
}
