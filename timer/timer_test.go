package timer_test

import (
	"cmp"
	"math"
	"math/rand"
	"slices"
	"testing"

	"parlour/api"
	"parlour/timer"
)

// most is how many timers there may be, as the document says it.
const most = 256

// one is a timer as it was set.
type one struct {
	id  int
	due int64
}

// model is what timers should be: a list, and nothing clever.
type model struct{ in []one }

// place is where the timer of an id stands in the list, or -1.
func (m *model) place(id int) int {
	return slices.IndexFunc(m.in, func(x one) bool { return x.id == id })
}

func (m *model) set(id int, due int64) api.Errno {
	if i := m.place(id); i >= 0 {
		m.in[i].due = due
	} else if len(m.in) >= most {
		return api.ErrFull
	} else {
		m.in = append(m.in, one{id, due})
	}
	m.sort()
	return api.OK
}

func (m *model) sort() {
	slices.SortFunc(m.in, func(a, b one) int {
		return cmp.Or(cmp.Compare(a.due, b.due), cmp.Compare(a.id, b.id))
	})
}

func (m *model) cancel(id int) bool {
	i := m.place(id)
	if i >= 0 {
		m.in = slices.Delete(m.in, i, i+1)
	}
	return i >= 0
}

func (m *model) due(now int64) []int {
	var ids []int
	for len(m.in) > 0 && m.in[0].due <= now {
		ids = append(ids, m.in[0].id)
		m.in = m.in[1:]
	}
	return ids
}

// filled is timers set in that order, and the model of them.
func filled(t *testing.T, in ...one) (*timer.Timers, *model) {
	t.Helper()
	x, m := timer.New(), &model{}
	if x == nil {
		t.Fatal("New is nil")
	}
	for _, s := range in {
		if got, want := x.Set(s.id, s.due), m.set(s.id, s.due); got != want {
			t.Fatalf("Set(%d, %d): error %d", s.id, s.due, got)
		}
	}
	return x, m
}

// check holds against timers how many there should be, and which is ahead.
func check(t *testing.T, what string, x *timer.Timers, m *model) {
	t.Helper()
	if x.Len() != len(m.in) {
		t.Fatalf("%s: Len %d, not %d", what, x.Len(), len(m.in))
	}
	id, due, ok := x.Next()
	if len(m.in) == 0 && (id != 0 || due != 0 || ok) {
		t.Fatalf("%s: Next of none: %d, %d, %t", what, id, due, ok)
	}
	if len(m.in) > 0 && (m.in[0] != one{id, due} || !ok) {
		t.Fatalf("%s: Next is %d, %d, %t, not %v", what, id, due, ok, m.in[0])
	}
}

// drain takes all timers off one by one, and holds them against those that there should be.
func drain(t *testing.T, what string, x *timer.Timers, m *model) {
	t.Helper()
	for len(m.in) > 0 {
		check(t, what, x, m)
		id := m.in[0].id
		if !x.Cancel(id) || !m.cancel(id) {
			t.Fatalf("%s: Cancel(%d) is false", what, id)
		}
	}
	check(t, what, x, m)
}

// both is Due of timers and of the model, which must be one.
func both(t *testing.T, what string, x *timer.Timers, m *model, now int64) {
	t.Helper()
	got, want := x.Due(now), m.due(now)
	if !slices.Equal(got, want) {
		t.Fatalf("%s: Due(%d) is %v, not %v", what, now, got, want)
	}
	check(t, what, x, m)
}

// The document's example.
func TestExample(t *testing.T) {
	x, _ := filled(t, one{1, 5}, one{2, 3}, one{3, 5})
	if id, due, ok := x.Next(); id != 2 || due != 3 || !ok {
		t.Errorf("Next: %d, %d, %t", id, due, ok)
	}
	if l := x.Due(4); !slices.Equal(l, []int{2}) {
		t.Errorf("Due(4): %v", l)
	}
	if e := x.Set(3, 9); e != api.OK {
		t.Errorf("Set(3, 9): error %d", e)
	}
	if l := x.Due(8); !slices.Equal(l, []int{1}) {
		t.Errorf("Due(8): %v", l)
	}
	if first, again := x.Cancel(3), x.Cancel(3); !first || again {
		t.Errorf("Cancel(3) twice: %t, %t", first, again)
	}
}

// P7.1, P7.2: of no timers there is nothing to tell, nor to take away.
func TestNone(t *testing.T) {
	x, m := filled(t)
	for range 2 {
		check(t, "new", x, m)
		for _, n := range []int64{0, 1, -1, math.MaxInt64, math.MinInt64} {
			if x.Cancel(int(n)) {
				t.Errorf("Cancel(%d) of none", n)
			}
			both(t, "new", x, m, n)
		}
	}
}

// P7.1: a timer of a new id is one more; of one that there is already it is due at the new time alone.
func TestSet(t *testing.T) {
	before := []one{{1, 10}, {2, 20}, {3, 30}, {4, 40}, {5, 50}}
	for _, s := range []one{
		{6, 5}, {6, 10}, {6, 35}, {6, 50}, {6, 60}, {0, 10}, {-1, 10}, {-1, -1},
		{math.MaxInt, 0}, {math.MinInt, 0}, {6, math.MaxInt64}, {6, math.MinInt64},
		{1, 10}, {1, 9}, {1, 11}, {1, 20}, {1, 35}, {1, 50}, {1, 99},
		{3, 30}, {3, 0}, {3, 10}, {3, 20}, {3, 40}, {3, 99},
		{5, 50}, {5, 0}, {5, 10}, {5, 25}, {5, 40}, {5, 99},
		{3, math.MaxInt64}, {3, math.MinInt64},
	} {
		for _, way := range []string{"taken off by Cancel", "taken off by Due"} {
			x, m := filled(t, before...)
			if got, want := x.Set(s.id, s.due), m.set(s.id, s.due); got != want {
				t.Errorf("Set(%d, %d): error %d", s.id, s.due, got)
			}
			check(t, way, x, m)
			if way == "taken off by Cancel" {
				drain(t, way, x, m)
			} else {
				both(t, way, x, m, math.MaxInt64)
			}
		}
	}
}

// full is as many timers as there may be, with ids 0, 3, 6 and on, two of them due at each time.
func full(t *testing.T) (*timer.Timers, *model) {
	t.Helper()
	var in []one
	for i := range most {
		in = append(in, one{3 * i, int64((i * 101 % most) / 2)})
	}
	return filled(t, in...)
}

// P7.1: one more than may be isn't set, and changes nothing; one that there is already is set anew.
func TestFull(t *testing.T) {
	x, m := full(t)
	for _, id := range []int{1, -3, 3 * most, math.MaxInt, math.MinInt} {
		for _, due := range []int64{-1, 5, 1000, math.MinInt64} {
			if e := x.Set(id, due); e != api.ErrFull {
				t.Errorf("Set(%d, %d) of full timers: error %d", id, due, e)
			}
			if x.Cancel(id) {
				t.Errorf("Cancel(%d), which was refused", id)
			}
			check(t, "full", x, m)
		}
	}
	for _, s := range []one{{0, 70}, {3, -1}, {3 * (most - 1), 40}, {300, 1000}} {
		if e := x.Set(s.id, s.due); e != api.OK || m.set(s.id, s.due) != api.OK {
			t.Errorf("Set(%d, %d) anew: error %d", s.id, s.due, e)
		}
		check(t, "full, one set anew", x, m)
	}
	drain(t, "full", x, m)
}

// P7.1, P7.2: what is cancelled, or was due, makes room again, for as many.
func TestRoomAgain(t *testing.T) {
	x, m := full(t)
	for i := range 5 {
		x.Cancel(3 * (10*i + i))
		m.cancel(3 * (10*i + i))
		both(t, "some due", x, m, int64(10*i))
		for id := -1; len(m.in) < most; id-- {
			if e := x.Set(id, int64(100*i-id)); e != api.OK || m.set(id, int64(100*i-id)) != api.OK {
				t.Fatalf("turn %d, Set(%d) of %d timers: error %d", i, id, len(m.in), e)
			}
		}
		check(t, "full again", x, m)
		if e := x.Set(1, 1); e != api.ErrFull {
			t.Errorf("turn %d: Set of full timers: error %d", i, e)
		}
	}
	both(t, "at the end", x, m, math.MaxInt64)
}

// P7.1: each timer may be cancelled, wherever it stands, once; the others stay as they are.
func TestCancel(t *testing.T) {
	random := rand.New(rand.NewSource(7))
	for size := 1; size <= 20; size++ {
		for i := range size {
			var in []one
			for id, due := range random.Perm(size) {
				in = append(in, one{id, int64(due / 2)})
			}
			x, m := filled(t, in...)
			for _, none := range []int{-1, size, size + 256, math.MaxInt, math.MinInt} {
				if x.Cancel(none) {
					t.Errorf("Cancel(%d), which there isn't", none)
				}
				check(t, "none cancelled", x, m)
			}
			if first, again := x.Cancel(i), x.Cancel(i); !first || again || !m.cancel(i) {
				t.Errorf("Cancel(%d) of %v twice: %t, %t", i, in, first, again)
			}
			check(t, "one cancelled", x, m)
			both(t, "one cancelled", x, m, math.MaxInt64)
		}
	}
}

// P7.1: what was cancelled, or was due, may be set again, as a new one.
func TestSetAgain(t *testing.T) {
	x, m := filled(t, one{1, 5}, one{2, 6}, one{3, 7})
	x.Cancel(2)
	m.cancel(2)
	both(t, "1 due", x, m, 5)
	for _, s := range []one{{2, 8}, {1, 7}} {
		if e := x.Set(s.id, s.due); e != api.OK || m.set(s.id, s.due) != api.OK {
			t.Errorf("Set(%d, %d) again: error %d", s.id, s.due, e)
		}
		check(t, "set again", x, m)
	}
	both(t, "set again", x, m, 6)
	both(t, "set again", x, m, 7)
	both(t, "set again", x, m, 8)
}

// P7.2: the one that is due earlier is ahead, then the one whose id is less; Next leaves it where it is.
func TestNext(t *testing.T) {
	for _, x := range []struct{ first, other one }{
		{one{1, 1}, one{2, 2}},
		{one{2, 1}, one{1, 2}},
		{one{1, 1}, one{2, 1}},
		{one{0, 0}, one{1, 0}},
		{one{-1, 0}, one{0, 0}},
		{one{-2, 0}, one{-1, 0}},
		{one{9, -1}, one{1, 0}},
		{one{9, -2}, one{1, -1}},
		{one{9, 1}, one{10, 1}},
		{one{256, 1}, one{511, 1}},
		{one{math.MinInt, 1}, one{math.MaxInt, 1}},
		{one{math.MinInt, 1}, one{1, 1}},
		{one{-2, 1}, one{math.MaxInt, 1}},
		{one{5, math.MinInt64}, one{4, math.MaxInt64}},
		{one{5, math.MinInt64}, one{4, 1}},
		{one{5, -2}, one{4, math.MaxInt64}},
		{one{5, math.MaxInt64 - 1}, one{4, math.MaxInt64}},
		{one{5, 3}, one{4, 1 << 32}},
		{one{5, 1<<32 + 3}, one{4, 1<<33 + 1}},
	} {
		for _, in := range [][]one{{x.first, x.other}, {x.other, x.first}} {
			timers, _ := filled(t, in...)
			for range 3 {
				if id, due, ok := timers.Next(); (one{id, due}) != x.first || !ok {
					t.Errorf("Next of %v: %d, %d, %t", in, id, due, ok)
				}
				if timers.Len() != 2 {
					t.Errorf("Next of %v: %d are left", in, timers.Len())
				}
			}
			if l := timers.Due(math.MaxInt64); !slices.Equal(l, []int{x.first.id, x.other.id}) {
				t.Errorf("Due of %v: %v", in, l)
			}
		}
	}
}

// P7.2: due is what is due at now or earlier, and it is gone.
func TestDue(t *testing.T) {
	in := []one{
		{1, 5}, {9, 5}, {-4, 5}, {2, 4}, {3, 6}, {4, 6}, {5, 0}, {6, -1}, {7, -5}, {8, 7},
		{10, math.MaxInt64}, {11, math.MaxInt64 - 1}, {12, math.MinInt64}, {13, math.MinInt64 + 1},
	}
	for _, x := range []struct {
		now int64
		ids []int
	}{
		{math.MinInt64, []int{12}},
		{math.MinInt64 + 1, []int{12, 13}},
		{-6, []int{12, 13}},
		{-5, []int{12, 13, 7}},
		{-4, []int{12, 13, 7}},
		{-1, []int{12, 13, 7, 6}},
		{0, []int{12, 13, 7, 6, 5}},
		{3, []int{12, 13, 7, 6, 5}},
		{4, []int{12, 13, 7, 6, 5, 2}},
		{5, []int{12, 13, 7, 6, 5, 2, -4, 1, 9}},
		{6, []int{12, 13, 7, 6, 5, 2, -4, 1, 9, 3, 4}},
		{7, []int{12, 13, 7, 6, 5, 2, -4, 1, 9, 3, 4, 8}},
		{math.MaxInt64 - 2, []int{12, 13, 7, 6, 5, 2, -4, 1, 9, 3, 4, 8}},
		{math.MaxInt64 - 1, []int{12, 13, 7, 6, 5, 2, -4, 1, 9, 3, 4, 8, 11}},
		{math.MaxInt64, []int{12, 13, 7, 6, 5, 2, -4, 1, 9, 3, 4, 8, 11, 10}},
	} {
		timers, m := filled(t, in...)
		if l := timers.Due(x.now); !slices.Equal(l, x.ids) || !slices.Equal(m.due(x.now), x.ids) {
			t.Errorf("Due(%d): %v, not %v", x.now, l, x.ids)
		}
		check(t, "some due", timers, m)
		for _, id := range x.ids {
			if timers.Cancel(id) {
				t.Errorf("Due(%d): %d isn't gone", x.now, id)
			}
		}
		both(t, "again", timers, m, x.now)
		both(t, "at the end", timers, m, math.MaxInt64)
	}
}

// P7.2: time may go back; what is later than it stays.
func TestTimeGoesBack(t *testing.T) {
	x, m := filled(t, one{1, 5}, one{2, 10})
	both(t, "on", x, m, 7)
	x.Set(3, 6)
	m.set(3, 6)
	both(t, "back", x, m, 5)
	both(t, "on again", x, m, 6)
}

// P7.3: as time goes by each timer is told once, at its time.
func TestOnce(t *testing.T) {
	x, m := full(t)
	told := map[int]int{}
	for now := int64(-2); now < most; now++ {
		at := m.due(now)
		l := x.Due(now)
		if !slices.Equal(l, at) {
			t.Errorf("Due(%d): %v, not %v", now, l, at)
		}
		for _, id := range l {
			told[id]++
		}
		if more := x.Due(now); len(more) != 0 {
			t.Errorf("Due(%d) again: %v", now, more)
		}
		check(t, "later", x, m)
	}
	for i := range most {
		if told[3*i] != 1 {
			t.Errorf("%d is told %d times", 3*i, told[3*i])
		}
	}
	if len(told) != most {
		t.Errorf("%d timers are told", len(told))
	}
}

// P7.3: a timer that is set anew is due at its last time alone, be it later or earlier.
func TestSetAnew(t *testing.T) {
	for _, x := range []struct{ elder, last int64 }{{5, 9}, {9, 5}, {5, 6}, {6, 5}, {5, 5}, {-5, 5}, {5, -5}} {
		timers, _ := filled(t, one{2, 7}, one{1, x.elder}, one{3, 7}, one{1, 100}, one{1, x.last})
		for now := int64(-10); now <= 101; now++ {
			l := timers.Due(now)
			if slices.Contains(l, 1) != (now == x.last) || slices.Contains(l, 2) != (now == 7) || slices.Contains(l, 3) != (now == 7) {
				t.Errorf("set from %d to %d: Due(%d) is %v", x.elder, x.last, now, l)
			}
		}
	}
}

// orders calls with each order of the list.
func orders(in []one, with func([]one)) {
	if len(in) < 2 {
		with(in)
		return
	}
	for i := range in {
		rest := slices.Delete(slices.Clone(in), i, i+1)
		orders(rest, func(behind []one) { with(append([]one{in[i]}, behind...)) })
	}
}

// P7.3: the order in which timers are set says nothing.
func TestOrderOfSet(t *testing.T) {
	tried := 0
	orders([]one{{1, 5}, {2, 3}, {3, 5}, {4, 3}, {-5, 5}, {6, 9}}, func(in []one) {
		tried++
		x, _ := filled(t, in...)
		for _, want := range [][]int{{2, 4}, {-5, 1, 3}, {6}} {
			_, now, _ := x.Next()
			if l := x.Due(now); !slices.Equal(l, want) {
				t.Fatalf("set as %v: Due(%d) is %v, not %v", in, now, l, want)
			}
		}
	})
	if tried != 720 {
		t.Errorf("%d orders were tried", tried)
	}
}

// script makes so many random calls of timers, and holds each answer against the model.
func script(t *testing.T, random *rand.Rand, x *timer.Timers, m *model, ids, calls int) {
	t.Helper()
	for range calls {
		id, time := random.Intn(ids)-ids/2, random.Int63n(int64(ids))
		switch n := random.Intn(100); {
		case n < 65:
			if got, want := x.Set(id, time), m.set(id, time); got != want {
				t.Fatalf("Set(%d, %d) of %d timers: error %d, not %d", id, time, len(m.in), got, want)
			}
		case n < 97:
			if got, want := x.Cancel(id), m.cancel(id); got != want {
				t.Fatalf("Cancel(%d): %t", id, got)
			}
		default:
			both(t, "a script", x, m, time/8)
		}
		check(t, "a script", x, m)
	}
}

// P7.1 to P7.3: through all calls timers are what the document says.
func TestScripts(t *testing.T) {
	random := rand.New(rand.NewSource(77))
	for _, ids := range []int{1, 2, 3, 4, 8, 20, 100, 255, 256, 257, 400, 2000} {
		x, m := filled(t)
		script(t, random, x, m, ids, 3000)
		drain(t, "at the end", x, m)
	}
}

// P7.1: with many ids timers are full in turns, and never more than that.
func TestScriptsWhenFull(t *testing.T) {
	random := rand.New(rand.NewSource(78))
	x, m := full(t)
	refused := 0
	for i := range 3000 {
		id, time := random.Intn(4*most), random.Int63()
		got := x.Set(id, time)
		if want := m.set(id, time); got != want {
			t.Fatalf("Set(%d) of %d timers: error %d, not %d", id, len(m.in), got, want)
		}
		if got == api.ErrFull {
			refused++
		}
		if i%2 == 0 {
			if got, want := x.Cancel(id/2), m.cancel(id/2); got != want {
				t.Fatalf("Cancel(%d): %t", id/2, got)
			}
		}
		check(t, "full in turns", x, m)
	}
	if refused == 0 {
		t.Error("timers were never full")
	}
	both(t, "at the end", x, m, math.MaxInt64)
}

// Timers, in turns, don't know of one another.
func TestApart(t *testing.T) {
	random := rand.New(rand.NewSource(79))
	var timers []*timer.Timers
	var models []*model
	for range 8 {
		x, m := filled(t)
		timers, models = append(timers, x), append(models, m)
	}
	for range 1000 {
		i := random.Intn(len(timers))
		script(t, random, timers[i], models[i], 30, 3)
		for j, m := range models {
			check(t, "others", timers[j], m)
		}
	}
	for j, m := range models {
		drain(t, "others", timers[j], m)
	}
}

// Of nil timers each answer is zero, but for Set's.
func TestNil(t *testing.T) {
	var x *timer.Timers
	for range 2 {
		if e := x.Set(1, 1); e != api.ErrNil {
			t.Errorf("Set: error %d", e)
		}
		if x.Cancel(1) || x.Len() != 0 {
			t.Errorf("Cancel is true, or Len %d", x.Len())
		}
		if id, due, ok := x.Next(); id != 0 || due != 0 || ok {
			t.Errorf("Next: %d, %d, %t", id, due, ok)
		}
		if l := x.Due(math.MaxInt64); len(l) != 0 {
			t.Errorf("Due: %v", l)
		}
	}
}

// Timers that New didn't make are no timers at all, too.
func TestNotMade(t *testing.T) {
	x, m := &timer.Timers{}, &model{}
	check(t, "not made", x, m)
	if x.Cancel(1) {
		t.Error("Cancel is true")
	}
	both(t, "not made", x, m, math.MaxInt64)
	script(t, rand.New(rand.NewSource(80)), x, m, 30, 300)
	drain(t, "not made", x, m)
}

// Calls of a copy, and of what it was made of, end, and none panics.
func TestCopy(t *testing.T) {
	x, _ := full(t)
	x.Due(9)
	y := *x
	for i := range 3 * most {
		x.Set(i, int64(-i))
		y.Set(2*i, int64(i))
		x.Cancel(i / 2)
		y.Cancel(i + 1)
		y.Due(int64(i / 9))
		x.Next()
		y.Next()
	}
	if x.Len() > most || y.Len() > most {
		t.Errorf("%d timers, and %d", x.Len(), y.Len())
	}
}

// An answer is memory of its own, its spare room too: neither the timers nor another answer is in it.
func TestAnswersAreOwn(t *testing.T) {
	x, m := filled(t, one{1, 1}, one{2, 1}, one{3, 1}, one{4, 2}, one{5, 2}, one{6, 3}, one{7, 3})
	spoil := func(l []int) {
		for i := range l[:cap(l)] {
			l[:cap(l)][i] = -99
		}
	}
	first, other := x.Due(1), x.Due(2)
	m.due(2)
	spoil(first)
	if !slices.Equal(other, []int{4, 5}) {
		t.Errorf("answers share memory: %v", other)
	}
	spoil(other)
	spoil(x.Due(2))
	x.Set(8, 3)
	m.set(8, 3)
	check(t, "answers written over", x, m)
	both(t, "answers written over", x, m, 3)
}
