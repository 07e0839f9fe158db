package mapin_test

import (
	"bytes"
	"math"
	"math/rand"
	"slices"
	"testing"

	"parlour/api"
	"parlour/mapin"
	"parlour/modes"
)

// The opcodes of the flags that this layer asks, as the document says them.
const (
	parmrk = 31
	istrip = 33
	inlcr  = 34
	igncr  = 35
	icrnl  = 36
	iuclc  = 37
	iexten = 59
)

var asked = []int{parmrk, istrip, inlcr, igncr, icrnl, iuclc, iexten}

// with is a setting with those flags on, and nothing else.
func with(ops ...int) api.Termios {
	var t api.Termios
	for _, op := range ops {
		t.Flags |= 1 << (op - 30)
	}
	return t
}

// on says whether a flag is on.
func on(t api.Termios, op int) bool { return t.Flags>>(op-30)&1 == 1 }

// askedBits is where the flags stand that this layer asks.
func askedBits() uint64 { return with(asked...).Flags }

// combinations is all ways in which the asked flags are on and off.
func combinations() []api.Termios {
	l := make([]api.Termios, 1<<len(asked))
	for i := range l {
		for place, op := range asked {
			l[i].Flags |= uint64(i>>place&1) << (op - 30)
		}
	}
	return l
}

// others is settings that say all else in several ways, right ones and wrong ones, the asked flags off.
func others() []api.Termios {
	greatest := api.Termios{Flags: math.MaxUint64, In: math.MaxUint32, Out: math.MaxUint32, Min: math.MaxInt, Time: math.MaxInt}
	for op := range greatest.Chars {
		greatest.Chars[op] = 255
	}
	ends := api.Termios{Flags: 1<<(51-30) | 1<<63, Min: math.MinInt, Time: -1}
	for op := range ends.Chars {
		ends.Chars[op] = byte(10 + op%4)
	}
	l := []api.Termios{{}, modes.Default(), greatest, ends}
	for i := range l {
		l[i].Flags &^= askedBits()
	}
	return l
}

// settings is each combination of the asked flags, beside each way to say all else.
func settings() []api.Termios {
	var l []api.Termios
	for _, other := range others() {
		for _, t := range combinations() {
			other.Flags = other.Flags&^askedBits() | t.Flags
			l = append(l, other)
		}
	}
	return l
}

// stripped is Strip as the document says it.
func stripped(t api.Termios, c byte) byte {
	n := int(c)
	if on(t, istrip) {
		n %= 128
	}
	if at := bytes.IndexByte([]byte("ABCDEFGHIJKLMNOPQRSTUVWXYZ"), byte(n)); at >= 0 && on(t, iuclc) && on(t, iexten) {
		return "abcdefghijklmnopqrstuvwxyz"[at]
	}
	return byte(n)
}

// turned is Turn as the document says it.
func turned(t api.Termios, c byte) (byte, bool) {
	if c == 13 {
		if on(t, igncr) {
			return 0, false
		}
		if on(t, icrnl) {
			return 10, true
		}
		return 13, true
	}
	if c == 10 && on(t, inlcr) {
		return 13, true
	}
	return c, true
}

// marked is Mark as the document says it.
func marked(t api.Termios, c byte) []byte {
	times := 1
	if c == 255 && on(t, parmrk) && !on(t, istrip) {
		times = 2
	}
	return bytes.Repeat([]byte{c}, times)
}

// mapped is Map as the document says it, byte by byte.
func mapped(t api.Termios, b []byte) []byte {
	var l []byte
	for _, c := range b {
		if end, ok := turned(t, stripped(t, c)); ok {
			l = append(l, marked(t, end)...)
		}
	}
	return l
}

// each is each byte once, the least first.
func each() []byte {
	b := make([]byte, 256)
	for i := range b {
		b[i] = byte(i)
	}
	return b
}

// maps checks what Map answers.
func maps(t *testing.T, s api.Termios, in, want []byte) {
	t.Helper()
	if got := mapin.Map(s, in); !bytes.Equal(got, want) {
		t.Errorf("flags %x: Map of %x: %x, not %x", s.Flags, in, got, want)
	}
}

// The opcodes of flags are the document's.
func TestNames(t *testing.T) {
	if !slices.Equal(asked, []int{api.PARMRK, api.ISTRIP, api.INLCR, api.IGNCR, api.ICRNL, api.IUCLC, api.IEXTEN}) {
		t.Error("a flag has another opcode")
	}
}

// The document's examples.
func TestExamples(t *testing.T) {
	d := modes.Default()
	maps(t, d, []byte{0x61, 0x0d, 0x0a, 0xff}, []byte{0x61, 0x0a, 0x0a, 0xff})
	maps(t, modes.Set(d, api.PARMRK, true), []byte{0xff}, []byte{0xff, 0xff})
	maps(t, modes.Set(d, api.ISTRIP, true), []byte{0xe1}, []byte{0x61})
	maps(t, modes.Set(d, api.IGNCR, true), []byte{0x0d}, nil)
}

// P9.1: what is stripped, at the edges.
func TestStripEdges(t *testing.T) {
	for _, x := range []struct {
		t       api.Termios
		c, want byte
	}{
		{with(), 0, 0}, {with(), 'A', 'A'}, {with(), 0x80, 0x80}, {with(), 255, 255},
		{with(istrip), 0, 0}, {with(istrip), 0x7f, 0x7f}, {with(istrip), 0x80, 0}, {with(istrip), 0x81, 1}, {with(istrip), 255, 0x7f},
		{with(istrip), 0x8d, 13}, {with(istrip), 0xc1, 'A'}, {with(istrip, iuclc), 0xc1, 'A'}, {with(istrip, iexten), 0xc1, 'A'},
		{with(iuclc), 'A', 'A'}, {with(iexten), 'A', 'A'},
		{with(iuclc, iexten), '@', '@'}, {with(iuclc, iexten), 'A', 'a'}, {with(iuclc, iexten), 'M', 'm'},
		{with(iuclc, iexten), 'Z', 'z'}, {with(iuclc, iexten), '[', '['},
		{with(iuclc, iexten), '`', '`'}, {with(iuclc, iexten), 'a', 'a'}, {with(iuclc, iexten), 'z', 'z'},
		{with(iuclc, iexten), 0xc1, 0xc1}, {with(iuclc, iexten), 0xda, 0xda}, {with(iuclc, iexten), '!', '!'},
		{with(istrip, iuclc, iexten), 0xc0, '@'}, {with(istrip, iuclc, iexten), 0xc1, 'a'}, {with(istrip, iuclc, iexten), 0xda, 'z'},
		{with(istrip, iuclc, iexten), 0xdb, '['}, {with(istrip, iuclc, iexten), 0xe1, 'a'},
		{with(igncr, icrnl, inlcr, parmrk), 13, 13}, {with(igncr, icrnl, inlcr, parmrk), 10, 10}, {with(igncr, icrnl, inlcr, parmrk), 255, 255},
	} {
		if got := mapin.Strip(x.t, x.c); got != x.want {
			t.Errorf("flags %x: Strip of %x: %x, not %x", x.t.Flags, x.c, got, x.want)
		}
	}
}

// P9.1: each byte is stripped by ISTRIP, IUCLC and IEXTEN, and by nothing else of a setting.
func TestStrip(t *testing.T) {
	for _, s := range settings() {
		for _, c := range each() {
			if got, want := mapin.Strip(s, c), stripped(s, c); got != want {
				t.Fatalf("%v: Strip of %x: %x, not %x", s, c, got, want)
			}
		}
	}
}

// P9.2: the ends of lines are turned, IGNCR ahead of ICRNL, and none is turned twice.
func TestTurnEdges(t *testing.T) {
	for _, x := range []struct {
		t       api.Termios
		c, want byte
		ok      bool
	}{
		{with(), 13, 13, true}, {with(), 10, 10, true}, {with(), 0, 0, true}, {with(), 255, 255, true},
		{with(icrnl), 13, 10, true}, {with(icrnl), 10, 10, true},
		{with(inlcr), 10, 13, true}, {with(inlcr), 13, 13, true},
		{with(igncr), 13, 0, false}, {with(igncr), 10, 10, true},
		{with(icrnl, inlcr), 13, 10, true}, {with(icrnl, inlcr), 10, 13, true},
		{with(igncr, icrnl), 13, 0, false}, {with(igncr, icrnl), 10, 10, true},
		{with(igncr, inlcr), 13, 0, false}, {with(igncr, inlcr), 10, 13, true},
		{with(igncr, icrnl, inlcr), 13, 0, false}, {with(igncr, icrnl, inlcr), 10, 13, true},
		{with(igncr, icrnl, inlcr, istrip), 0x8d, 0x8d, true}, {with(igncr, icrnl, inlcr, istrip), 0x8a, 0x8a, true},
		{with(istrip, iuclc, iexten, parmrk), 'A', 'A', true}, {with(istrip, iuclc, iexten, parmrk), 255, 255, true},
	} {
		if got, ok := mapin.Turn(x.t, x.c); got != x.want || ok != x.ok {
			t.Errorf("flags %x: Turn of %x: %x, %t, not %x, %t", x.t.Flags, x.c, got, ok, x.want, x.ok)
		}
	}
}

// P9.2: each byte is turned by IGNCR, ICRNL and INLCR, and by nothing else of a setting.
func TestTurn(t *testing.T) {
	for _, s := range settings() {
		for _, c := range each() {
			got, ok := mapin.Turn(s, c)
			if want, wantOk := turned(s, c); got != want || ok != wantOk {
				t.Fatalf("%v: Turn of %x: %x, %t, not %x, %t", s, c, got, ok, want, wantOk)
			}
		}
	}
}

// P9.3: a byte 255 is told by two with PARMRK, but not with ISTRIP.
func TestMarkEdges(t *testing.T) {
	for _, x := range []struct {
		t    api.Termios
		c    byte
		want []byte
	}{
		{with(), 255, []byte{255}}, {with(istrip), 255, []byte{255}},
		{with(parmrk), 255, []byte{255, 255}}, {with(parmrk, istrip), 255, []byte{255}},
		{with(parmrk), 254, []byte{254}}, {with(parmrk), 127, []byte{127}}, {with(parmrk), 0, []byte{0}},
		{with(parmrk, igncr, icrnl), 13, []byte{13}}, {with(parmrk, inlcr), 10, []byte{10}},
		{with(parmrk, iuclc, iexten), 'A', []byte{'A'}}, {with(parmrk, istrip), 0xe1, []byte{0xe1}},
	} {
		if got := mapin.Mark(x.t, x.c); !bytes.Equal(got, x.want) {
			t.Errorf("flags %x: Mark of %x: %x, not %x", x.t.Flags, x.c, got, x.want)
		}
	}
}

// P9.3: each byte is marked by PARMRK and ISTRIP, and by nothing else of a setting.
func TestMark(t *testing.T) {
	for _, s := range settings() {
		for _, c := range each() {
			if got, want := mapin.Mark(s, c), marked(s, c); !bytes.Equal(got, want) {
				t.Fatalf("%v: Mark of %x: %x, not %x", s, c, got, want)
			}
		}
	}
}

// P9.4: the steps come one behind the other: what Strip makes is turned, and what isn't left out is marked.
func TestOrderOfSteps(t *testing.T) {
	maps(t, with(istrip, icrnl), []byte{0x8d, 0x8a}, []byte{10, 10})
	maps(t, with(istrip, inlcr), []byte{0x8d, 0x8a}, []byte{13, 13})
	maps(t, with(istrip, igncr), []byte{0x8d, 0x8a, 0x0d}, []byte{10})
	maps(t, with(icrnl, inlcr, igncr), []byte{0x8d, 0x8a}, []byte{0x8d, 0x8a})
	maps(t, with(istrip, parmrk), []byte{255, 127}, []byte{127, 127})
	maps(t, with(icrnl, inlcr), []byte{13, 10, 13, 13, 10, 10}, []byte{10, 13, 10, 10, 13, 13})
	maps(t, with(igncr, icrnl, inlcr), []byte{13, 10, 13}, []byte{13})
	maps(t, with(igncr, parmrk), []byte{255, 13, 255, 0}, []byte{255, 255, 255, 255, 0})
	maps(t, with(istrip, iuclc, iexten, parmrk, igncr, inlcr), []byte{0xc1, 'B', 0x8d, 10, 255}, []byte{'a', 'b', 13, 127})
}

// P9.4: each byte is mapped as Strip, Turn and Mark of it, alone and among all others.
func TestMap(t *testing.T) {
	for _, s := range settings() {
		for _, c := range each() {
			if got, want := mapin.Map(s, []byte{c}), mapped(s, []byte{c}); !bytes.Equal(got, want) {
				t.Fatalf("%v: Map of %x: %x, not %x", s, c, got, want)
			}
		}
		forth := each()
		back := each()
		slices.Reverse(back)
		maps(t, s, forth, mapped(s, forth))
		maps(t, s, slices.Concat(back, forth, back), mapped(s, slices.Concat(back, forth, back)))
	}
}

// P9.4: of nothing, and of bytes that are all left out, nothing comes.
func TestNothing(t *testing.T) {
	for _, s := range settings() {
		if got := mapin.Map(s, nil); len(got) != 0 {
			t.Errorf("%v: Map of nil: %x", s, got)
		}
		if got := mapin.Map(s, []byte{}); len(got) != 0 {
			t.Errorf("%v: Map of no bytes: %x", s, got)
		}
		if got := mapin.Map(s, []byte{13, 13, 13}); on(s, igncr) && len(got) != 0 {
			t.Errorf("%v: Map of bytes that are left out: %x", s, got)
		}
	}
}

// anyBytes is bytes, those that mean something often among them.
func anyBytes(random *rand.Rand, most int) []byte {
	b := make([]byte, random.Intn(most))
	for i := range b {
		b[i] = byte(random.Intn(256))
		if random.Intn(2) == 0 {
			b[i] = []byte{10, 13, 0x8a, 0x8d, 'A', 'Z', 'a', 0xc1, 0xda, 127, 254, 255}[random.Intn(12)]
		}
	}
	return b
}

// P9.5: without these flags bytes are as they came, whatever else is set.
func TestAsTheyCame(t *testing.T) {
	random := rand.New(rand.NewSource(9))
	for _, s := range others() {
		maps(t, s, each(), each())
		for range 200 {
			b := anyBytes(random, 300)
			maps(t, s, b, b)
		}
	}
}

// P9.5: with ICRNL and not INLCR no byte 13 is read; with ISTRIP none above 127; and no more come out than twice as many as went in.
func TestWhatIsNeverRead(t *testing.T) {
	random := rand.New(rand.NewSource(95))
	for _, s := range settings() {
		for range 10 {
			b := append(anyBytes(random, 200), each()...)
			got := mapin.Map(s, b)
			if on(s, icrnl) && !on(s, inlcr) && slices.Contains(got, 13) {
				t.Fatalf("%v: Map of %x has a byte 13", s, b)
			}
			if on(s, istrip) && slices.Max(got) > 127 {
				t.Fatalf("%v: Map of %x has a byte above 127", s, b)
			}
			if len(got) > 2*len(b) {
				t.Fatalf("%v: Map of %x has %d bytes", s, b, len(got))
			}
		}
	}
}

// P9.5: bytes mapped apart, cut wherever, are mapped at once.
func TestApart(t *testing.T) {
	random := rand.New(rand.NewSource(59))
	for _, s := range settings() {
		for range 20 {
			b := anyBytes(random, 40)
			want := mapped(s, b)
			maps(t, s, b, want)
			for cut := range len(b) + 1 {
				got := append(mapin.Map(s, b[:cut]), mapin.Map(s, b[cut:])...)
				if !bytes.Equal(got, want) {
					t.Fatalf("%v: Map of %x, cut at %d: %x, not %x", s, b, cut, got, want)
				}
			}
		}
	}
}

// Many bytes are mapped as few are.
func TestMany(t *testing.T) {
	many := bytes.Repeat(each(), 1024)
	for _, s := range []api.Termios{with(), modes.Default(), with(parmrk, igncr), with(asked...)} {
		maps(t, s, many, bytes.Repeat(mapped(s, each()), 1024))
	}
}

// What is handed in is neither changed nor shared, its spare room included.
func TestArgumentsStay(t *testing.T) {
	for _, s := range settings() {
		room := append(each(), 1, 2, 3, 4)
		before := slices.Clone(room)
		got := mapin.Map(s, room[:256])
		want := slices.Clone(got)
		spoil(got)
		if !bytes.Equal(room, before) {
			t.Fatalf("%v: Map's answer shares its argument", s)
		}
		got = mapin.Map(s, room[:256])
		spoil(room)
		if !bytes.Equal(got, want) {
			t.Fatalf("%v: Map's answer hangs on its argument", s)
		}
	}
}

// Answers share no memory with one another.
func TestAnswersApart(t *testing.T) {
	for _, s := range settings() {
		for _, c := range each() {
			first, second := mapin.Mark(s, c), mapin.Mark(s, c)
			spoil(first)
			if third := mapin.Mark(s, c); !bytes.Equal(second, marked(s, c)) || !bytes.Equal(third, marked(s, c)) {
				t.Fatalf("%v: answers of Mark of %x share memory", s, c)
			}
		}
		first, second := mapin.Map(s, each()), mapin.Map(s, each())
		spoil(first)
		if third := mapin.Map(s, each()); !bytes.Equal(second, mapped(s, each())) || !bytes.Equal(third, mapped(s, each())) {
			t.Fatalf("%v: answers of Map share memory", s)
		}
	}
}

// spoil writes into a list, its spare room included.
func spoil(b []byte) {
	b = b[:cap(b)]
	for i := range b {
		b[i] ^= 0x55
	}
}
