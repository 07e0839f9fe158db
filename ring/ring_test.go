package ring_test

import (
	"bytes"
	"math"
	"math/rand"
	"testing"

	"parlour/api"
	"parlour/ring"
)

// fresh is an empty ring.
func fresh(t *testing.T, size int) *ring.Ring {
	t.Helper()
	r, e := ring.New(size)
	if e != api.OK || r == nil {
		t.Fatalf("a ring of %d: error %d", size, e)
	}
	return r
}

// turned is an empty ring whose places have gone so many bytes round.
func turned(t *testing.T, size, by int) *ring.Ring {
	t.Helper()
	r := fresh(t, size)
	for range by {
		r.Write([]byte("#"))
		r.Drop(1)
	}
	return r
}

// check holds against a ring what should be in it.
func check(t *testing.T, what string, r *ring.Ring, size int, in string) {
	t.Helper()
	if r.Len() != len(in) || r.Cap() != size || r.Room() != size-len(in) {
		t.Fatalf("%s: Len %d, Cap %d, Room %d; %d bytes of %d are asked", what, r.Len(), r.Cap(), r.Room(), len(in), size)
	}
	if b := r.Peek(size); string(b) != in {
		t.Fatalf("%s: %q is in it, not %q", what, b, in)
	}
}

// P5.1: a ring of each size that may be, from the least to the greatest, is empty.
func TestNew(t *testing.T) {
	for _, size := range []int{1, 2, 3, 255, 256, 1000, 65535, 65536} {
		r := fresh(t, size)
		check(t, "a new ring", r, size, "")
		if len(r.Read(size)) != 0 || r.Drop(size) != 0 {
			t.Errorf("a new ring of %d isn't empty", size)
		}
	}
}

// P5.1: sizes that may not be.
func TestNewWrong(t *testing.T) {
	for _, size := range []int{0, -1, -65536, 65537, 65536 * 2, 1<<32 + 1, math.MaxInt, math.MinInt} {
		if r, e := ring.New(size); e != api.ErrArg || r != nil {
			t.Errorf("a ring of %d: error %d", size, e)
		}
	}
}

// The document's example.
func TestExample(t *testing.T) {
	r := fresh(t, 3)
	if n := r.Write([]byte("abcd")); n != 3 {
		t.Errorf("Write of abcd: %d", n)
	}
	if b := r.Read(2); string(b) != "ab" {
		t.Errorf("Read 2: %q", b)
	}
	if n := r.Write([]byte("ef")); n != 2 {
		t.Errorf("Write of ef: %d", n)
	}
	if b := r.Peek(9); string(b) != "cef" || r.Room() != 0 {
		t.Errorf("Peek 9: %q; Room %d", b, r.Room())
	}
}

// P5.2: of what is written the first bytes that there is room for stand behind the others, wherever the places are.
func TestWrite(t *testing.T) {
	for _, x := range []struct {
		before, b string
		n         int
		after     string
	}{
		{"", "", 0, ""},
		{"", "a", 1, "a"},
		{"", "abcd", 4, "abcd"},
		{"", "abcde", 4, "abcd"},
		{"", "abcdefghijkl", 4, "abcd"},
		{"ab", "", 0, "ab"},
		{"ab", "c", 1, "abc"},
		{"ab", "cd", 2, "abcd"},
		{"ab", "cde", 2, "abcd"},
		{"abc", "\x00\xff", 1, "abc\x00"},
		{"abcd", "", 0, "abcd"},
		{"abcd", "e", 0, "abcd"},
		{"abcd", "efghi", 0, "abcd"},
	} {
		for by := range 5 {
			r := turned(t, 4, by)
			r.Write([]byte(x.before))
			if n := r.Write([]byte(x.b)); n != x.n {
				t.Errorf("Write of %q behind %q, turned by %d: %d", x.b, x.before, by, n)
			}
			check(t, "Write", r, 4, x.after)
		}
	}
	if n := fresh(t, 4).Write(nil); n != 0 {
		t.Errorf("Write of nil: %d", n)
	}
}

// P5.2: of what there is, Read, Peek and Drop have so many, or all, or none; Peek's stay, the others' are gone.
func TestReadPeekDrop(t *testing.T) {
	for _, x := range []struct {
		in        string
		n         int
		had, left string
	}{
		{"abcd", 0, "", "abcd"},
		{"abcd", 1, "a", "bcd"},
		{"abcd", 3, "abc", "d"},
		{"abcd", 4, "abcd", ""},
		{"abcd", 5, "abcd", ""},
		{"abcd", math.MaxInt, "abcd", ""},
		{"abcd", -1, "", "abcd"},
		{"abcd", math.MinInt, "", "abcd"},
		{"ab", 1, "a", "b"},
		{"ab", 2, "ab", ""},
		{"ab", 3, "ab", ""},
		{"ab", 4, "ab", ""},
		{"ab", math.MaxInt, "ab", ""},
		{"", 0, "", ""},
		{"", 1, "", ""},
		{"", 4, "", ""},
		{"", -1, "", ""},
		{"", math.MaxInt, "", ""},
		{"", math.MinInt, "", ""},
	} {
		for by := range 5 {
			r := turned(t, 4, by)
			r.Write([]byte(x.in))
			if b := r.Peek(x.n); string(b) != x.had {
				t.Errorf("Peek %d of %q, turned by %d: %q", x.n, x.in, by, b)
			}
			check(t, "Peek", r, 4, x.in)
			if b := r.Read(x.n); string(b) != x.had {
				t.Errorf("Read %d of %q, turned by %d: %q", x.n, x.in, by, b)
			}
			check(t, "Read", r, 4, x.left)
			r = turned(t, 4, by)
			r.Write([]byte(x.in))
			if n := r.Drop(x.n); n != len(x.had) {
				t.Errorf("Drop %d of %q, turned by %d: %d", x.n, x.in, by, n)
			}
			check(t, "Drop", r, 4, x.left)
		}
	}
}

// P5.2: behind a Clear nothing is left, and there is room for as much as ever.
func TestClear(t *testing.T) {
	for _, in := range []string{"", "a", "abc", "abcd"} {
		for by := range 5 {
			r := turned(t, 4, by)
			r.Write([]byte(in))
			r.Clear()
			check(t, "Clear", r, 4, "")
			if b := r.Read(4); len(b) != 0 {
				t.Errorf("Read behind Clear: %q", b)
			}
			r.Clear()
			if n := r.Write([]byte("vwxyz")); n != 4 {
				t.Errorf("Write behind Clear: %d", n)
			}
			check(t, "Write behind Clear", r, 4, "vwxy")
		}
	}
}

// P5.3: what there is, and what there is room for, byte by byte, in and out.
func TestLenRoomCap(t *testing.T) {
	for _, size := range []int{1, 2, 5} {
		r := fresh(t, size)
		for range 2*size + 1 {
			for n := range size {
				r.Write([]byte("a"))
				if r.Len() != n+1 || r.Room() != size-n-1 || r.Cap() != size {
					t.Errorf("%d of %d in: Len %d, Room %d, Cap %d", n+1, size, r.Len(), r.Room(), r.Cap())
				}
			}
			for n := range size {
				r.Read(1)
				if r.Len() != size-n-1 || r.Room() != n+1 || r.Cap() != size {
					t.Errorf("%d of %d out: Len %d, Room %d, Cap %d", n+1, size, r.Len(), r.Room(), r.Cap())
				}
			}
			r.Write([]byte("b"))
			r.Drop(1)
		}
	}
}

// P5.3: the greatest ring, full and gone round.
func TestGreatest(t *testing.T) {
	const size = 65536
	in := make([]byte, size+1)
	for i := range in {
		in[i] = byte(i * 7 / 5)
	}
	r := turned(t, size, 40000)
	if n := r.Write(in); n != size {
		t.Fatalf("Write of %d: %d", len(in), n)
	}
	check(t, "full", r, size, string(in[:size]))
	if b := r.Read(30000); !bytes.Equal(b, in[:30000]) {
		t.Errorf("Read 30000: %d bytes", len(b))
	}
	if n := r.Write(in); n != 30000 {
		t.Errorf("Write of %d: %d", len(in), n)
	}
	check(t, "full again", r, size, string(in[30000:size])+string(in[:30000]))
}

// model is what a ring should be: all that fitted and isn't gone.
type model struct {
	size int
	in   string
}

func (m *model) write(b string) int {
	n := min(len(b), m.size-len(m.in))
	m.in += b[:n]
	return n
}

func (m *model) take(n int) string {
	n = max(0, min(n, len(m.in)))
	b := m.in[:n]
	m.in = m.in[n:]
	return b
}

// script makes so many random calls of a ring, and holds each answer against the model.
func script(t *testing.T, random *rand.Rand, r *ring.Ring, m *model, calls int) {
	t.Helper()
	for range calls {
		n := random.Intn(2*m.size+4) - 2
		switch random.Intn(9) {
		case 0, 1, 2, 3:
			b := make([]byte, max(0, n))
			random.Read(b)
			if got, want := r.Write(b), m.write(string(b)); got != want {
				t.Fatalf("Write of %d: %d, not %d", len(b), got, want)
			}
		case 4, 5:
			if got, want := string(r.Read(n)), m.take(n); got != want {
				t.Fatalf("Read %d: %q, not %q", n, got, want)
			}
		case 6:
			if got, want := r.Drop(n), len(m.take(n)); got != want {
				t.Fatalf("Drop %d: %d, not %d", n, got, want)
			}
		case 7:
			kept := *m
			if got, want := string(r.Peek(n)), kept.take(n); got != want {
				t.Fatalf("Peek %d: %q, not %q", n, got, want)
			}
		case 8:
			if random.Intn(8) == 0 {
				r.Clear()
				m.in = ""
			}
		}
		check(t, "the ring", r, m.size, m.in)
	}
}

// P5.4: through all calls, what is had and what is left are what was written and fitted, in order.
func TestOrder(t *testing.T) {
	random := rand.New(rand.NewSource(5))
	for _, size := range []int{1, 2, 3, 4, 5, 7, 8, 16, 63, 64, 65} {
		script(t, random, fresh(t, size), &model{size: size}, 2000)
	}
}

// P5.4: rings of one size and of several, in turns, don't know of one another.
func TestApart(t *testing.T) {
	random := rand.New(rand.NewSource(54))
	sizes := []int{5, 5, 3, 9, 1}
	var rings []*ring.Ring
	var models []*model
	for _, size := range sizes {
		rings = append(rings, fresh(t, size))
		models = append(models, &model{size: size})
	}
	for range 1000 {
		i := random.Intn(len(sizes))
		script(t, random, rings[i], models[i], 3)
		for j, m := range models {
			check(t, "another ring", rings[j], m.size, m.in)
		}
	}
}

// Of a nil ring each answer is zero; one that New didn't make has room for nothing.
func TestNoRing(t *testing.T) {
	for what, r := range map[string]*ring.Ring{"nil": nil, "not made": {}} {
		for _, n := range []int{0, 1, -1, 9, math.MaxInt, math.MinInt} {
			r.Clear()
			if r.Write(nil) != 0 || r.Write([]byte("abc")) != 0 || r.Drop(n) != 0 || len(r.Read(n)) != 0 || len(r.Peek(n)) != 0 {
				t.Errorf("%s: a call with %d isn't zero", what, n)
			}
			if r.Len() != 0 || r.Room() != 0 || r.Cap() != 0 {
				t.Errorf("%s: Len %d, Room %d, Cap %d", what, r.Len(), r.Room(), r.Cap())
			}
		}
	}
}

// spoil writes over bytes and their spare room.
func spoil(b []byte) {
	for i := range b[:cap(b)] {
		b[:cap(b)][i] = '!'
	}
}

// What is handed in is neither changed, its spare room included, nor kept.
func TestArgumentsStay(t *testing.T) {
	for by := range 5 {
		r := turned(t, 4, by)
		b := append(bytes.Repeat([]byte("#"), 16)[:0], "abcdef"...)
		kept := string(b[:cap(b)])
		r.Write(b)
		first := r.Read(2)
		r.Write([]byte("yz"))
		spoil(first)
		spoil(r.Peek(4))
		if string(b[:cap(b)]) != kept {
			t.Errorf("the argument was changed: %q", b[:cap(b)])
		}
		spoil(b)
		check(t, "its argument written over", r, 4, "cdyz")
	}
}

// An answer is memory of its own, its spare room too: neither the ring nor another answer is in it.
func TestAnswersAreOwn(t *testing.T) {
	for by := range 5 {
		r := turned(t, 4, by)
		r.Write([]byte("abcd"))
		one, other := r.Peek(3), r.Peek(3)
		spoil(one)
		if string(other) != "abc" {
			t.Errorf("two answers of Peek share memory: %q", other)
		}
		check(t, "an answer of Peek written over", r, 4, "abcd")
		had := r.Read(2)
		r.Write([]byte("ef"))
		if string(had) != "ab" {
			t.Errorf("an answer of Read went with the ring: %q", had)
		}
		spoil(had)
		spoil(other)
		check(t, "an answer of Read written over", r, 4, "cdef")
	}
}
