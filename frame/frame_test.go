package frame_test

import (
	"bytes"
	"math/rand"
	"slices"
	"strings"
	"testing"

	"parlour/api"
	"parlour/frame"
)

const (
	most    = 33792
	longest = "\x00\x00\x84\x00" // the length that tells most
)

// rep is a text of so many bytes, from a to z and again.
func rep(n int) string { return strings.Repeat("abcdefghijklmnopqrstuvwxyz", n/26+1)[:n] }

// pack is payloads as a stream of packets.
func pack(payloads ...string) string {
	var s strings.Builder
	for _, p := range payloads {
		n := len(p)
		s.Write([]byte{byte(n >> 24), byte(n >> 16), byte(n >> 8), byte(n)})
		s.WriteString(p)
	}
	return s.String()
}

// held is a framer that isn't bad, with bytes that wait.
func held(buf string) frame.Framer { return frame.Framer{Buf: []byte(buf)} }

// told is a list of payloads as texts.
func told(l [][]byte) []string {
	var out []string
	for _, p := range l {
		out = append(out, string(p))
	}
	return out
}

// P2.1: packets from the least payload to the longest.
func TestPut(t *testing.T) {
	for _, x := range []struct {
		payload, head string
	}{
		{"ab", "\x00\x00\x00\x02"},
		{"\x00", "\x00\x00\x00\x01"},
		{"\x00\x00\x00\x00", "\x00\x00\x00\x04"},
		{rep(255), "\x00\x00\x00\xff"},
		{rep(256), "\x00\x00\x01\x00"},
		{rep(258), "\x00\x00\x01\x02"},
		{rep(32768), "\x00\x00\x80\x00"},
		{rep(most - 1), "\x00\x00\x83\xff"},
		{rep(most), longest},
	} {
		b, e := frame.Put([]byte(x.payload))
		if e != api.OK || string(b) != x.head+x.payload {
			t.Errorf("a payload of %d bytes: %d bytes, error %d", len(x.payload), len(b), e)
		}
	}
}

// P2.1: payloads that no packet has.
func TestPutWrong(t *testing.T) {
	for what, payload := range map[string][]byte{
		"nil":              nil,
		"empty":            {},
		"one byte more":    make([]byte, most+1),
		"a length of 2^16": make([]byte, 1<<16),
		"a length of 2^24": make([]byte, 1<<24),
		"2^16 and a byte":  make([]byte, 1<<16+1),
		"2^24 and a byte":  make([]byte, 1<<24+1),
	} {
		if b, e := frame.Put(payload); e != api.ErrRange || len(b) != 0 {
			t.Errorf("%s: %d bytes, error %d", what, len(b), e)
		}
	}
}

type feedCase struct {
	what    string
	f       frame.Framer
	b, left string
	l       []string
	bad     bool
	e       api.Errno
}

func checkFeed(t *testing.T, cases []feedCase) {
	t.Helper()
	for _, x := range cases {
		f, l, e := frame.Feed(x.f, []byte(x.b))
		if string(f.Buf) != x.left || f.Bad != x.bad || e != x.e || !slices.Equal(told(l), x.l) {
			t.Errorf("%s: %d bytes left, bad %v, %d payloads, error %d", x.what, len(f.Buf), f.Bad, len(l), e)
		}
	}
}

// P2.2: what is whole is handed out, and the rest is left.
func TestFeed(t *testing.T) {
	none := frame.Framer{}
	checkFeed(t, []feedCase{
		{what: "nothing", f: none},
		{what: "a byte", f: none, b: "\x00", left: "\x00"},
		{what: "a byte that no length begins with", f: none, b: "\xff", left: "\xff"},
		{what: "three bytes that no length begins with", f: none, b: "\xff\xff\xff", left: "\xff\xff\xff"},
		{what: "three bytes of 0", f: none, b: "\x00\x00\x00", left: "\x00\x00\x00"},
		{what: "a length alone", f: none, b: "\x00\x00\x00\x01", left: "\x00\x00\x00\x01"},
		{what: "the greatest length alone", f: none, b: longest, left: longest},
		{what: "a byte too few", f: none, b: "\x00\x00\x00\x02a", left: "\x00\x00\x00\x02a"},
		{what: "the document's example, its second half", f: held("\x00\x00\x00\x02a"), b: "b\x00", l: []string{"ab"}, left: "\x00"},
		{what: "one packet", f: none, b: pack("ab"), l: []string{"ab"}},
		{what: "the least packet", f: none, b: pack("a"), l: []string{"a"}},
		{what: "a payload of zeros", f: none, b: pack("\x00\x00\x00\x00"), l: []string{"\x00\x00\x00\x00"}},
		{what: "the longest packet", f: none, b: pack(rep(most)), l: []string{rep(most)}},
		{what: "the longest packet but a byte", f: none, b: longest + rep(most-1), left: longest + rep(most-1)},
		{what: "its last byte", f: held(longest + rep(most-1)), b: "!", l: []string{rep(most-1) + "!"}},
		{what: "some packets, and bytes behind", f: none, b: pack("a", "bc", "d") + "\x00\x00", l: []string{"a", "bc", "d"}, left: "\x00\x00"},
		{what: "a packet behind the longest", f: none, b: pack(rep(most), "x"), l: []string{rep(most), "x"}},
		{what: "a length in two pieces", f: held("\x00\x00"), b: "\x00\x01z", l: []string{"z"}},
		{what: "a packet in the framer itself", f: held(pack("ab", "c") + "\x00"), l: []string{"ab", "c"}, left: "\x00"},
		{what: "nothing behind what waits", f: held("\x00\x00\x00\x09xy"), left: "\x00\x00\x00\x09xy"},
	})
}

// P2.2: lengths that no packet has.
func TestFeedBad(t *testing.T) {
	none := frame.Framer{}
	checkFeed(t, []feedCase{
		{what: "a length of 0", f: none, b: "\x00\x00\x00\x00", bad: true, e: api.ErrRange},
		{what: "a length of 0, and more", f: none, b: "\x00\x00\x00\x00ab", bad: true, e: api.ErrRange},
		{what: "one too many", f: none, b: "\x00\x00\x84\x01", bad: true, e: api.ErrRange},
		{what: "one too many, all there", f: none, b: pack(rep(most + 1)), bad: true, e: api.ErrRange},
		{what: "2^16 and one", f: none, b: "\x00\x01\x00\x01a", bad: true, e: api.ErrRange},
		{what: "2^24 and one", f: none, b: "\x01\x00\x00\x01a", bad: true, e: api.ErrRange},
		{what: "2^31", f: none, b: "\x80\x00\x00\x00", bad: true, e: api.ErrRange},
		{what: "2^31 and one", f: none, b: "\x80\x00\x00\x01a", bad: true, e: api.ErrRange},
		{what: "2^32 - 1", f: none, b: "\xff\xff\xff\xff", bad: true, e: api.ErrRange},
		{what: "its last byte", f: held("\x00\x00\x00"), b: "\x00", bad: true, e: api.ErrRange},
		{what: "behind payloads", f: none, b: pack("ab", "c") + "\x00\x00\x00\x00" + pack("d"), l: []string{"ab", "c"}, bad: true, e: api.ErrRange},
		{what: "behind a payload in two pieces", f: held("\x00\x00\x00\x02a"), b: "b\xff\x00\x00\x00", l: []string{"ab"}, bad: true, e: api.ErrRange},
		{what: "in the framer itself", f: held("\x00\x00\x00\x00"), bad: true, e: api.ErrRange},
	})
}

// P2.2, P2.3: a bad framer stays so, whatever comes, and has nothing.
func TestFeedOfBad(t *testing.T) {
	checkFeed(t, []feedCase{
		{what: "nothing", f: frame.Framer{Bad: true}, bad: true, e: api.ErrState},
		{what: "a packet", f: frame.Framer{Bad: true}, b: pack("ab"), bad: true, e: api.ErrState},
		{what: "a length of 0", f: frame.Framer{Bad: true}, b: "\x00\x00\x00\x00", bad: true, e: api.ErrState},
		{what: "a packet within", f: frame.Framer{Buf: []byte(pack("ab")), Bad: true}, bad: true, e: api.ErrState},
		{what: "a part within", f: frame.Framer{Buf: []byte{0, 0}, Bad: true}, b: "\x00\x01a", bad: true, e: api.ErrState},
	})
	f, _, e := frame.Feed(frame.Framer{}, make([]byte, 4))
	for range 3 {
		if f, _, e = frame.Feed(f, []byte(pack("ab"))); e != api.ErrState || !f.Bad || len(f.Buf) != 0 {
			t.Errorf("a framer that was bad: %v, error %d", f, e)
		}
	}
}

// cut feeds a stream in pieces whose lengths are asked one by one; it tells the framer, all payloads, and the first error.
func cut(t *testing.T, stream string, size func() int) (frame.Framer, []string, api.Errno) {
	t.Helper()
	var f frame.Framer
	var all []string
	first := api.OK
	for len(stream) > 0 {
		n := min(size(), len(stream))
		next, l, e := frame.Feed(f, []byte(stream[:n]))
		f, stream = next, stream[n:]
		all = append(all, told(l)...)
		if first == api.OK {
			first = e
		} else if e != api.ErrState || len(l) != 0 {
			t.Fatalf("behind an error: %d payloads, error %d", len(l), e)
		}
		if !f.Bad && len(f.Buf) >= 4 && len(f.Buf) >= 4+(int(f.Buf[0])<<24|int(f.Buf[1])<<16|int(f.Buf[2])<<8|int(f.Buf[3])) {
			t.Fatalf("what is left is a packet: %d bytes", len(f.Buf))
		}
	}
	return f, all, first
}

// P2.3: however a stream is cut, its payloads come, in order, and what isn't a packet yet is left.
func TestCut(t *testing.T) {
	r := rand.New(rand.NewSource(2))
	for range 300 {
		var payloads []string
		for range r.Intn(8) {
			n := 1 + r.Intn(9)
			if r.Intn(10) == 0 {
				n = 1 + r.Intn(most)
			}
			payloads = append(payloads, rep(n))
		}
		tail := []string{"", "\x00", "\xff\xff\xff", "\x00\x00\x00\x05abcd"}[r.Intn(4)]
		greatest := 1 + r.Intn(3000)
		f, l, e := cut(t, pack(payloads...)+tail, func() int { return r.Intn(greatest + 1) })
		if e != api.OK || f.Bad || !slices.Equal(l, payloads) || string(f.Buf) != tail {
			t.Fatalf("%d payloads of %d, %d bytes left, error %d", len(l), len(payloads), len(f.Buf), e)
		}
		f, l, e = cut(t, pack(payloads...)+"\x00\x00\x84\x01"+pack("x"), func() int { return r.Intn(greatest + 1) })
		if e != api.ErrRange || !f.Bad || !slices.Equal(l, payloads) || len(f.Buf) != 0 {
			t.Fatalf("%d payloads of %d ahead of a bad length, error %d", len(l), len(payloads), e)
		}
	}
}

// P2.3: the longest packet, byte by byte, with one behind it.
func TestByteByByte(t *testing.T) {
	f, l, e := cut(t, pack(rep(most), "x"), func() int { return 1 })
	if e != api.OK || f.Bad || len(f.Buf) != 0 || !slices.Equal(l, []string{rep(most), "x"}) {
		t.Errorf("%d payloads, %d bytes left, error %d", len(l), len(f.Buf), e)
	}
}

// P2.3: what is put is fed.
func TestPutAndFeed(t *testing.T) {
	var f frame.Framer
	for _, n := range []int{1, 2, 255, 256, 65, 32768, most} {
		packet, e := frame.Put([]byte(rep(n)))
		if e != api.OK {
			t.Fatalf("%d bytes: error %d", n, e)
		}
		var l [][]byte
		if f, l, e = frame.Feed(f, packet); e != api.OK || !slices.Equal(told(l), []string{rep(n)}) || len(f.Buf) != 0 {
			t.Errorf("%d bytes: %d payloads, error %d", n, len(l), e)
		}
	}
}

// roomy is bytes with spare room behind them that is marked.
func roomy(s string) []byte { return append(bytes.Repeat([]byte{'#'}, 64)[:0], s...) }

// whole is bytes with their spare room.
func whole(b []byte) string { return string(b[:cap(b)]) }

// spoil writes over bytes and their spare room.
func spoil(b []byte) {
	for i := range b[:cap(b)] {
		b[:cap(b)][i] = '!'
	}
}

// What is handed in is neither changed nor kept.
func TestArgumentsStay(t *testing.T) {
	payload := roomy("ab")
	kept := whole(payload)
	packet, _ := frame.Put(payload)
	spoil(packet)
	if whole(payload) != kept {
		t.Errorf("Put, or its answer, changed the payload: %q", whole(payload))
	}
	for _, b := range []string{"b\x00", "", "b" + pack("c", "d"), "b\x00\x00\x00\x00"} {
		for _, bad := range []bool{false, true} {
			f, in := frame.Framer{Buf: roomy("\x00\x00\x00\x02a"), Bad: bad}, roomy(b)
			keptF, keptIn := whole(f.Buf), whole(in)
			g, l, _ := frame.Feed(f, in)
			spoil(g.Buf)
			for _, p := range l {
				spoil(p)
			}
			if whole(f.Buf) != keptF || whole(in) != keptIn {
				t.Errorf("Feed of %q, or its answer, changed an argument", b)
			}
		}
	}
}

// An answer is memory of its own.
func TestAnswersAreOwn(t *testing.T) {
	payload := []byte("ab")
	packet, _ := frame.Put(payload)
	spoil(payload)
	if string(packet) != pack("ab") {
		t.Errorf("Put kept its payload: %q", packet)
	}
	f, b := held("\x00\x00\x00\x02a"), []byte("b"+pack("cd")+"\x00\x00")
	g, l, _ := frame.Feed(f, b)
	spoil(f.Buf)
	spoil(b)
	if !slices.Equal(told(l), []string{"ab", "cd"}) || string(g.Buf) != "\x00\x00" {
		t.Errorf("Feed kept an argument: %q, %q", l, g.Buf)
	}
}

// No two lists of an answer share memory, their spare room included.
func TestListsAreApart(t *testing.T) {
	wants := []string{"ab", "cd", "ef", "\x00\x00"}
	for i := range wants {
		g, l, _ := frame.Feed(held("\x00\x00\x00\x02a"), []byte("b"+pack("cd", "ef")+"\x00\x00"))
		lists := append(l, g.Buf)
		spoil(lists[i])
		for j, want := range wants {
			if j != i && string(lists[j]) != want {
				t.Errorf("list %d changed list %d: %q", i, j, lists[j])
			}
		}
	}
}

// A framer is a value: what was fed to it doesn't reach another that began as it did.
func TestFramersAreApart(t *testing.T) {
	f, _, _ := frame.Feed(frame.Framer{}, []byte("\x00\x00\x00\x03a"))
	_, one, _ := frame.Feed(f, []byte("bc"))
	_, other, _ := frame.Feed(f, []byte("xy"))
	if !slices.Equal(told(one), []string{"abc"}) || !slices.Equal(told(other), []string{"axy"}) || string(f.Buf) != "\x00\x00\x00\x03a" {
		t.Errorf("%q, %q of %q", one, other, f.Buf)
	}
}
