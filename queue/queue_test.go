package queue_test

import (
	"bytes"
	"math"
	"math/rand"
	"strings"
	"testing"

	"parlour/api"
	"parlour/queue"
)

// limits is what a queue is made with.
type limits struct{ bytes, records, high, low int }

// fresh is an empty queue.
func fresh(t *testing.T, l limits) *queue.Queue {
	t.Helper()
	q, e := queue.New(l.bytes, l.records, l.high, l.low)
	if e != api.OK || q == nil {
		t.Fatalf("a queue of %v: error %d", l, e)
	}
	return q
}

// check holds against a queue what should be in it, but for the records behind the first.
func check(t *testing.T, what string, q *queue.Queue, in []string, over bool) {
	t.Helper()
	used := len(strings.Join(in, ""))
	if q.Count() != len(in) || q.Used() != used || q.Over() != over {
		t.Fatalf("%s: Count %d, Used %d, Over %t; %d records of %d bytes and %t are asked", what, q.Count(), q.Used(), q.Over(), len(in), used, over)
	}
	b, ok := q.Front()
	if ok != (len(in) > 0) || ok && string(b) != in[0] || !ok && len(b) != 0 {
		t.Fatalf("%s: Front is %q, %t; of %q", what, b, ok, in)
	}
}

// empty takes all records off, and holds them against those that should be in the queue.
func empty(t *testing.T, what string, q *queue.Queue, in []string) {
	t.Helper()
	for i, want := range in {
		if b, ok := q.Pop(); !ok || string(b) != want {
			t.Fatalf("%s: Pop %d is %q, %t, not %q", what, i, b, ok, want)
		}
	}
	check(t, what, q, nil, false)
	if b, ok := q.Pop(); ok || len(b) != 0 {
		t.Fatalf("%s: Pop of an empty queue is %q, %t", what, b, ok)
	}
	check(t, what, q, nil, false)
}

// P6.1: queues of all that may be asked, from the least to the greatest, are empty, and not Over.
func TestNew(t *testing.T) {
	for _, l := range []limits{
		{1, 1, 1, 0},
		{1, 4096, 1, 0},
		{2, 1, 1, 0},
		{2, 1, 2, 0},
		{2, 1, 2, 1},
		{8, 3, 6, 2},
		{8, 3, 8, 7},
		{8, 3, 1, 0},
		{65535, 4095, 65535, 65534},
		{65536, 1, 1, 0},
		{65536, 1, 65536, 0},
		{65536, 4096, 65536, 65535},
	} {
		q := fresh(t, l)
		check(t, "a new queue", q, nil, false)
		empty(t, "a new queue", q, nil)
	}
}

// P6.1: what may not be asked.
func TestNewWrong(t *testing.T) {
	for _, l := range []limits{
		{0, 1, 1, 0},
		{0, 1, 0, 0},
		{0, 1, 0, -1},
		{-1, 1, 1, 0},
		{-1, 1, -1, -2},
		{65537, 1, 1, 0},
		{1<<32 + 8, 3, 6, 2},
		{math.MaxInt, 3, 6, 2},
		{math.MinInt, 3, 6, 2},
		{8, 0, 6, 2},
		{8, -1, 6, 2},
		{8, 4097, 6, 2},
		{8, 1<<32 + 3, 6, 2},
		{8, math.MaxInt, 6, 2},
		{8, math.MinInt, 6, 2},
		{8, 3, 9, 2},
		{8, 3, math.MaxInt, 2},
		{8, 3, 0, 0},
		{8, 3, 0, -1},
		{8, 3, -1, -2},
		{8, 3, math.MinInt, 2},
		{8, 3, 6, -1},
		{8, 3, 6, math.MinInt},
		{8, 3, 6, 6},
		{8, 3, 6, 7},
		{8, 3, 2, 6},
		{8, 3, 8, 8},
		{8, 3, 6, math.MaxInt},
		{65536, 4096, 65537, 0},
		{65536, 4096, 65536, 65536},
		{0, 0, 0, 0},
		{math.MaxInt, math.MaxInt, math.MaxInt, math.MinInt},
	} {
		if q, e := queue.New(l.bytes, l.records, l.high, l.low); e != api.ErrArg || q != nil {
			t.Errorf("a queue of %v: error %d", l, e)
		}
	}
}

// The document's example.
func TestExample(t *testing.T) {
	q := fresh(t, limits{8, 3, 6, 2})
	if !q.Push([]byte("abcd")) || !q.Push([]byte("efg")) {
		t.Error("Push: false")
	}
	check(t, "abcd, efg pushed", q, []string{"abcd", "efg"}, true)
	if b, ok := q.Pop(); !ok || string(b) != "abcd" {
		t.Errorf("Pop: %q, %t", b, ok)
	}
	check(t, "abcd popped", q, []string{"efg"}, true)
	if b, ok := q.Pop(); !ok || string(b) != "efg" {
		t.Errorf("Pop: %q, %t", b, ok)
	}
	check(t, "efg popped", q, nil, false)
}

// P6.2: a record that there is room for is the last; of one that there is none for nothing comes.
func TestPush(t *testing.T) {
	for _, x := range []struct {
		before []string
		b      string
		ok     bool
	}{
		{nil, "", true},
		{nil, "a", true},
		{nil, "abcdefgh", true},
		{nil, "abcdefghi", false},
		{nil, strings.Repeat("a", 100000), false},
		{[]string{""}, "abcdefgh", true},
		{[]string{""}, "abcdefghi", false},
		{[]string{"abc"}, "", true},
		{[]string{"abc"}, "defg", true},
		{[]string{"abc"}, "defgh", true},
		{[]string{"abc"}, "defghi", false},
		{[]string{"abcdefgh"}, "", true},
		{[]string{"abcdefgh"}, "i", false},
		{[]string{"abc", "\x00\xff"}, "fgh", true},
		{[]string{"abc", "de"}, "fghi", false},
		{[]string{"a", "b", "c"}, "", false},
		{[]string{"a", "b", "c"}, "d", false},
		{[]string{"", "", ""}, "", false},
		{[]string{"", "", ""}, "a", false},
		{[]string{"abc", "de", "fgh"}, "", false},
		{[]string{"abc", "de", "fgh"}, "i", false},
	} {
		q := fresh(t, limits{8, 3, 6, 2})
		for _, b := range x.before {
			q.Push([]byte(b))
		}
		over := q.Over()
		after := x.before
		if x.ok {
			after = append(after[:len(after):len(after)], x.b)
			over = over || len(strings.Join(after, "")) >= 6
		}
		if ok := q.Push([]byte(x.b)); ok != x.ok {
			t.Errorf("Push of %d bytes behind %q: %t", len(x.b), x.before, ok)
		}
		check(t, "Push", q, after, over)
		empty(t, "Push", q, after)
	}
}

// P6.2: nil is an empty record.
func TestPushNil(t *testing.T) {
	q := fresh(t, limits{1, 2, 1, 0})
	if !q.Push(nil) || !q.Push([]byte{}) || q.Push(nil) {
		t.Error("Push of nil")
	}
	check(t, "nil pushed", q, []string{"", ""}, false)
	empty(t, "nil pushed", q, []string{"", ""})
}

// P6.2: Front's record stays, Pop's is gone, and of an empty queue there is none.
func TestFrontAndPop(t *testing.T) {
	in := []string{"ab", "", "c", "\x00\r\n\xff", "c"}
	q := fresh(t, limits{16, 5, 16, 0})
	for _, b := range in {
		q.Push([]byte(b))
	}
	for i := range in {
		for range 3 {
			check(t, "Front", q, in[i:], false)
		}
		if b, ok := q.Pop(); !ok || string(b) != in[i] {
			t.Errorf("Pop %d: %q, %t", i, b, ok)
		}
	}
	for range 3 {
		if b, ok := q.Front(); ok || len(b) != 0 {
			t.Errorf("Front of an empty queue: %q, %t", b, ok)
		}
		if b, ok := q.Pop(); ok || len(b) != 0 {
			t.Errorf("Pop of an empty queue: %q, %t", b, ok)
		}
		check(t, "empty", q, nil, false)
	}
}

// P6.2: what is popped makes room, for records and for bytes alike, as often as there is one.
func TestRoomAgain(t *testing.T) {
	q := fresh(t, limits{4, 2, 4, 0})
	for i := range 100 {
		first, second := []byte{byte(i)}, []byte{byte(i), 1, 2}
		if !q.Push(first) || q.Push([]byte("abcd")) || !q.Push(second) || q.Push(nil) {
			t.Fatalf("turn %d: Push", i)
		}
		empty(t, "full", q, []string{string(first), string(second)})
	}
}

// P6.3: Over goes with the marks, and stays between them as it was. A step takes a record off ("-"), or pushes the bytes behind its "+".
func TestOver(t *testing.T) {
	for _, x := range []struct {
		l     limits
		steps string
		over  string // behind each step, 1 or 0
	}{
		{limits{8, 9, 6, 2}, "+abcde", "0"},
		{limits{8, 9, 6, 2}, "+abcdef", "1"},
		{limits{8, 9, 6, 2}, "+abcdefg", "1"},
		{limits{8, 9, 6, 2}, "+abc +de +f", "001"},
		{limits{8, 9, 6, 2}, "+abc +de +f +gh", "0011"},
		{limits{8, 9, 6, 2}, "+abc +def - ", "011"},
		{limits{8, 9, 6, 2}, "+a +bcd +ef - - -", "001100"},
		{limits{8, 9, 6, 2}, "+abcd +efg - -", "0110"},
		{limits{8, 9, 6, 2}, "+abcde +f - - -", "01000"},
		{limits{8, 9, 6, 2}, "+abc +de +f - +g +h - - - -", "0011111000"},
		{limits{8, 9, 6, 2}, "+abcdef +gh - +ijk +l +mno -", "1100111"},
		{limits{8, 9, 6, 2}, "+abc +de - +a +b -", "000000"},
		{limits{8, 9, 6, 2}, "+abc +de +fghi", "000"},       // the last isn't taken
		{limits{8, 9, 6, 2}, "+abc +def - +ghijkl", "0111"}, // nor this one
		{limits{8, 9, 6, 2}, "+abcde + +", "000"},
		{limits{8, 9, 6, 2}, "+ +abcdef + - - -", "011100"},
		{limits{8, 9, 6, 2}, "+abcd +ef + - - -", "011000"},
		{limits{8, 9, 6, 2}, "+ +abc +def - -", "00111"},
		{limits{8, 9, 6, 2}, "+ +abc - -", "0000"},
		{limits{8, 9, 8, 7}, "+a +bcdefg +h - -", "00100"},
		{limits{8, 9, 8, 7}, "+ +abcdefgh - -", "0110"},
		{limits{8, 9, 8, 0}, "+abcdefg +h - -", "0110"},
		{limits{8, 9, 8, 0}, "+abcdefg +h - + - -", "011100"},
		{limits{8, 9, 1, 0}, "+ +a - - +", "01100"},
		{limits{8, 9, 1, 0}, "+ab +c - + - -", "111100"},
		{limits{1, 9, 1, 0}, "+a +b - +c -", "11010"},
		{limits{8, 1, 6, 2}, "+abc +def -", "000"}, // one record alone
	} {
		q := fresh(t, x.l)
		for i, step := range strings.Fields(x.steps) {
			if step == "-" {
				q.Pop()
			} else {
				q.Push([]byte(step[1:]))
			}
			if q.Over() != (x.over[i] == '1') {
				t.Errorf("%v, %s: Over behind step %d is %t", x.l, x.steps, i, q.Over())
			}
		}
	}
}

// P6.3: the greatest queue, full of bytes, and full of records.
func TestGreatest(t *testing.T) {
	const size, most = 65536, 4096
	b := make([]byte, size+1)
	for i := range b {
		b[i] = byte(i * 7 / 5)
	}
	q := fresh(t, limits{size, most, size, size - 1})
	if q.Push(b) || !q.Push(b[:size]) || q.Push(b[:1]) {
		t.Error("Push of all bytes")
	}
	check(t, "full of bytes", q, []string{string(b[:size])}, true)
	for range most - 1 {
		q.Push(nil)
	}
	if q.Count() != most || q.Push(nil) {
		t.Errorf("full of records: %d", q.Count())
	}
	q.Pop()
	var in []string
	for range most - 1 {
		in = append(in, "")
	}
	check(t, "full of empty records", q, in, false)
	empty(t, "full of empty records", q, in)
	in = nil
	for i := range most {
		record := b[16*i : 16*i+16]
		in = append(in, string(record))
		if !q.Push(record) {
			t.Fatalf("Push of record %d", i)
		}
	}
	check(t, "full of both", q, in, true)
	empty(t, "full of both", q, in)
}

// model is what a queue should be: all that was taken and isn't gone, and whether that is too much.
type model struct {
	limits
	in   []string
	over bool
}

func (m *model) used() int { return len(strings.Join(m.in, "")) }

func (m *model) push(b string) bool {
	if len(m.in) == m.records || m.used()+len(b) > m.bytes {
		return false
	}
	m.in = append(m.in, b)
	if m.used() >= m.high {
		m.over = true
	}
	return true
}

func (m *model) pop() (string, bool) {
	if len(m.in) == 0 {
		return "", false
	}
	b := m.in[0]
	m.in = m.in[1:]
	if m.used() <= m.low {
		m.over = false
	}
	return b, true
}

// script makes so many random calls of a queue, and holds each answer against the model.
func script(t *testing.T, random *rand.Rand, q *queue.Queue, m *model, calls int) {
	t.Helper()
	for range calls {
		if random.Intn(2) == 0 {
			b := make([]byte, random.Intn(m.bytes/2+2))
			random.Read(b)
			if got, want := q.Push(b), m.push(string(b)); got != want {
				t.Fatalf("%v: Push of %d behind %d: %t", m.limits, len(b), m.used(), got)
			}
		} else {
			b, ok := q.Pop()
			if want, is := m.pop(); ok != is || string(b) != want {
				t.Fatalf("%v: Pop: %q, %t, not %q, %t", m.limits, b, ok, want, is)
			}
		}
		check(t, "the queue", q, m.in, m.over)
		if m.used() >= m.high && !q.Over() || q.Count() == 0 && q.Over() {
			t.Fatalf("%v: %d bytes of %d records, and Over is %t", m.limits, q.Used(), q.Count(), q.Over())
		}
	}
}

// several is queues' limits of several kinds.
func several() []limits {
	return []limits{
		{1, 1, 1, 0}, {1, 3, 1, 0}, {2, 2, 2, 1}, {8, 3, 6, 2}, {8, 3, 6, 2}, {8, 40, 7, 0},
		{20, 5, 20, 19}, {20, 5, 10, 9}, {64, 8, 48, 16}, {64, 4096, 1, 0}, {1000, 7, 700, 300},
	}
}

// P6.4: through all calls, records come out as they went in, in order.
func TestOrder(t *testing.T) {
	random := rand.New(rand.NewSource(6))
	for _, l := range several() {
		q, m := fresh(t, l), &model{limits: l}
		script(t, random, q, m, 3000)
		for range len(m.in) {
			b, _ := q.Pop()
			if want, _ := m.pop(); string(b) != want {
				t.Fatalf("%v: Pop at the end: %q, not %q", l, b, want)
			}
		}
		check(t, "at the end", q, nil, false)
	}
}

// P6.4: an empty record makes nothing but one more, wherever the bytes stand.
func TestEmptyRecord(t *testing.T) {
	for used := range 9 {
		for _, before := range []bool{false, true} {
			q := fresh(t, limits{8, 9, 6, 2})
			if before { // Over, and down to as many bytes as are to be used
				q.Push(make([]byte, 8-used))
				q.Push(make([]byte, used))
				q.Pop()
			} else {
				q.Push(make([]byte, used))
			}
			over := q.Over()
			if !q.Push(nil) || q.Count() != 2 || q.Used() != used || q.Over() != over {
				t.Errorf("an empty record behind %d bytes: Count %d, Used %d, Over %t", used, q.Count(), q.Used(), q.Over())
			}
		}
	}
}

// Queues, in turns, don't know of one another.
func TestApart(t *testing.T) {
	random := rand.New(rand.NewSource(64))
	var queues []*queue.Queue
	var models []*model
	for _, l := range several() {
		queues = append(queues, fresh(t, l))
		models = append(models, &model{limits: l})
	}
	for range 1000 {
		i := random.Intn(len(queues))
		script(t, random, queues[i], models[i], 3)
		for j, m := range models {
			check(t, "another queue", queues[j], m.in, m.over)
		}
	}
}

// Of a nil queue each answer is zero; one that New didn't make has room for nothing.
func TestNoQueue(t *testing.T) {
	for what, q := range map[string]*queue.Queue{"nil": nil, "not made": {}} {
		for range 2 {
			if q.Push(nil) || q.Push([]byte("abc")) {
				t.Errorf("%s: Push is true", what)
			}
			if b, ok := q.Front(); ok || b != nil {
				t.Errorf("%s: Front is %q, %t", what, b, ok)
			}
			if b, ok := q.Pop(); ok || b != nil {
				t.Errorf("%s: Pop is %q, %t", what, b, ok)
			}
			if q.Count() != 0 || q.Used() != 0 || q.Over() {
				t.Errorf("%s: Count %d, Used %d, Over %t", what, q.Count(), q.Used(), q.Over())
			}
		}
	}
}

// spoil writes over bytes and their spare room.
func spoil(b []byte) {
	for i := range b[:cap(b)] {
		b[:cap(b)][i] = '!'
	}
}

// What is handed in is neither changed, its spare room included, nor kept.
func TestArgumentsStay(t *testing.T) {
	q := fresh(t, limits{16, 9, 12, 2})
	b := append(bytes.Repeat([]byte("#"), 32)[:0], "abcdef"...)
	kept := string(b[:cap(b)])
	q.Push(b)
	q.Push(b[:3])
	q.Push(b[6:6])
	if q.Push(b[:cap(b)]) {
		t.Error("Push of more than there is room for")
	}
	q.Pop()
	q.Push(b[2:4])
	if string(b[:cap(b)]) != kept {
		t.Errorf("the argument was changed: %q", b[:cap(b)])
	}
	spoil(b)
	in := []string{"abc", "", "cd"}
	check(t, "its argument written over", q, in, false)
	empty(t, "its argument written over", q, in)
}

// An answer is memory of its own, its spare room too: neither the queue nor another answer is in it.
func TestAnswersAreOwn(t *testing.T) {
	q := fresh(t, limits{16, 9, 16, 2})
	for _, b := range []string{"abc", "", "de", "fghi"} {
		q.Push([]byte(b))
	}
	one, _ := q.Front()
	other, _ := q.Front()
	had, _ := q.Pop()
	spoil(one)
	if string(other) != "abc" || string(had) != "abc" {
		t.Errorf("answers share memory: %q, %q", other, had)
	}
	spoil(had)
	if string(other) != "abc" {
		t.Errorf("an answer of Front shares memory with one of Pop: %q", other)
	}
	none, _ := q.Front()
	spoil(none)
	none, _ = q.Pop()
	spoil(none)
	first, _ := q.Front()
	spoil(first)
	q.Push([]byte("jk"))
	spoil(other)
	in := []string{"de", "fghi", "jk"}
	check(t, "answers written over", q, in, false)
	empty(t, "answers written over", q, in)
}
