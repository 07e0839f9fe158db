package modes_test

import (
	"bytes"
	"math"
	"math/rand"
	"slices"
	"testing"

	"parlour/api"
	"parlour/modes"
)

// The opcodes of flags, as the document says them.
var flags = []int{
	30, 31, 32, 33, 34, 35, 36, 37, 38, 39, 40, 41, 42,
	50, 51, 52, 53, 54, 55, 56, 57, 58, 59, 60, 61, 62,
	70, 71, 72, 73, 74, 75,
	90, 91, 92, 93,
}

// The default, as the document says it, by opcodes.
var (
	defaultCharacters = map[int]byte{1: 3, 2: 28, 3: 127, 4: 21, 5: 4, 8: 17, 9: 19, 10: 26, 12: 18, 13: 23, 14: 22, 18: 15}
	defaultFlags      = []int{36, 38, 41, 50, 51, 53, 54, 55, 60, 61, 59, 70, 72, 91}
)

// all is where any flag stands in Flags.
func all() uint64 {
	var bits uint64
	for _, op := range flags {
		bits |= 1 << (op - 30)
	}
	return bits
}

// oddOpcodes is opcodes that are neither a character's nor a flag's, of each kind of wrong ones.
func oddOpcodes() []int {
	l := []int{
		math.MinInt, math.MinInt + 30, math.MinInt32, -256, -226, -34, -1, 94, 95, 127, 128, 129, 130, 159, 160, 255,
		256, 256 + 1, 256 + 30, 256 + 53, 1<<16 + 53, 1<<32 + 1, 1<<32 + 53, math.MaxInt32, math.MaxInt - 1, math.MaxInt,
	}
	for op := range 160 {
		if (op < 1 || op > 18) && !slices.Contains(flags, op) {
			l = append(l, op)
		}
	}
	return l
}

// anySetting is a setting that may be anything, a right one or not.
func anySetting(random *rand.Rand) api.Termios {
	t := api.Termios{
		Flags: random.Uint64(), In: random.Uint32(), Out: random.Uint32(),
		Min: random.Intn(600) - 300, Time: random.Intn(600) - 300,
	}
	for op := range t.Chars {
		t.Chars[op] = byte(random.Intn(256))
		if random.Intn(3) == 0 {
			t.Chars[op] = 255
		}
	}
	return t
}

// settings is a number of settings, the least and the greatest among them.
func settings() []api.Termios {
	greatest := api.Termios{Flags: math.MaxUint64, In: math.MaxUint32, Out: math.MaxUint32, Min: math.MaxInt, Time: math.MaxInt}
	for op := range greatest.Chars {
		greatest.Chars[op] = 255
	}
	l := []api.Termios{{}, modes.Default(), greatest, {Flags: ^all(), Min: math.MinInt, Time: math.MinInt}}
	random := rand.New(rand.NewSource(8))
	for range 20 {
		l = append(l, anySetting(random))
	}
	return l
}

// one is the bytes of a mode.
func one(op byte, argument uint32) []byte {
	return []byte{op, byte(argument >> 24), byte(argument >> 16), byte(argument >> 8), byte(argument)}
}

// stream is the bytes of modes, one behind the other.
func stream(l ...[]byte) []byte { return bytes.Join(l, nil) }

// decoded is Decode of bytes that are right.
func decoded(t *testing.T, b []byte, over api.Termios) api.Termios {
	t.Helper()
	got, e := modes.Decode(b, over)
	if e != api.OK {
		t.Fatalf("Decode of %x: error %d", b, e)
	}
	return got
}

// refused checks that bytes are told as an error, whatever the setting.
func refused(t *testing.T, b []byte, want api.Errno) {
	t.Helper()
	for _, over := range settings() {
		if got, e := modes.Decode(b, over); e != want || got != (api.Termios{}) {
			t.Fatalf("Decode of %x: %v, error %d, not %d", b, got, e, want)
		}
	}
}

// The names of opcodes are the document's.
func TestNames(t *testing.T) {
	if !slices.Equal(flags, []int{
		api.IGNPAR, api.PARMRK, api.INPCK, api.ISTRIP, api.INLCR, api.IGNCR, api.ICRNL, api.IUCLC, api.IXON, api.IXANY, api.IXOFF, api.IMAXBEL, api.IUTF8,
		api.ISIG, api.ICANON, api.XCASE, api.ECHO, api.ECHOE, api.ECHOK, api.ECHONL, api.NOFLSH, api.TOSTOP, api.IEXTEN, api.ECHOCTL, api.ECHOKE, api.PENDIN,
		api.OPOST, api.OLCUC, api.ONLCR, api.OCRNL, api.ONOCR, api.ONLRET,
		api.CS7, api.CS8, api.PARENB, api.PARODD,
	}) {
		t.Error("a flag has another opcode")
	}
	for i, op := range []int{
		api.VINTR, api.VQUIT, api.VERASE, api.VKILL, api.VEOF, api.VEOL, api.VEOL2, api.VSTART, api.VSTOP,
		api.VSUSP, api.VDSUSP, api.VREPRINT, api.VWERASE, api.VLNEXT, api.VFLUSH, api.VSWTCH, api.VSTATUS, api.VDISCARD,
	} {
		if op != i+1 {
			t.Errorf("character %d has opcode %d", i+1, op)
		}
	}
}

// The document's examples.
func TestExamples(t *testing.T) {
	d := modes.Default()
	want := d
	want.Chars[3] = 8
	want.Flags &^= 1 << (53 - 30)
	if got := decoded(t, []byte{3, 0, 0, 0, 8, 0x35, 0, 0, 0, 0, 0}, d); got != want {
		t.Errorf("VERASE 8, ECHO off: %v", got)
	}
	if got := decoded(t, []byte{0xa0, 1}, d); got != d {
		t.Errorf("a0 01: %v", got)
	}
	refused(t, []byte{1, 0, 0, 1, 0}, api.ErrRange)
	refused(t, []byte{1, 0}, api.ErrShort)
}

// P8.1: the default is the document's, part by part.
func TestDefault(t *testing.T) {
	d := modes.Default()
	if d.Chars[0] != 0 {
		t.Errorf("Chars[0] is %d", d.Chars[0])
	}
	for op := 1; op <= 18; op++ {
		want, ok := defaultCharacters[op]
		if !ok {
			want = 255
		}
		if d.Chars[op] != want {
			t.Errorf("character %d is %d, not %d", op, d.Chars[op], want)
		}
		if c, is := modes.Char(d, op); is != ok || ok && c != want {
			t.Errorf("Char(%d): %d, %t", op, c, is)
		}
	}
	var bits uint64
	for _, op := range defaultFlags {
		bits |= 1 << (op - 30)
	}
	if d.Flags != bits {
		t.Errorf("flags are %x, not %x", d.Flags, bits)
	}
	if d.In != 38400 || d.Out != 38400 || d.Min != 1 || d.Time != 0 {
		t.Errorf("speeds %d, %d, Min %d, Time %d", d.In, d.Out, d.Min, d.Time)
	}
	if !modes.Right(d) || modes.Default() != d {
		t.Error("the default isn't right, or isn't one")
	}
}

// P8.1: Has is of flags alone, each by its own bit.
func TestHas(t *testing.T) {
	for _, s := range settings() {
		for _, op := range flags {
			if want := s.Flags>>(op-30)&1 == 1; modes.Has(s, op) != want {
				t.Errorf("Has(%x, %d) isn't %t", s.Flags, op, want)
			}
		}
		for _, op := range oddOpcodes() {
			if modes.Has(s, op) {
				t.Errorf("Has(%x, %d), which is no flag", s.Flags, op)
			}
		}
		for op := 1; op <= 18; op++ {
			if modes.Has(s, op) {
				t.Errorf("Has(%x, %d), which is a character", s.Flags, op)
			}
		}
	}
	for _, op := range flags {
		alone := api.Termios{Flags: 1 << (op - 30)}
		for _, other := range flags {
			if modes.Has(alone, other) != (op == other) {
				t.Errorf("just %d is on: Has(%d)", op, other)
			}
		}
	}
}

// P8.1: Set puts one flag on, or off, and leaves all else; the setting that is handed in stays.
func TestSet(t *testing.T) {
	for _, s := range settings() {
		before := s
		for _, op := range flags {
			on, off := before, before
			on.Flags |= 1 << (op - 30)
			off.Flags &^= 1 << (op - 30)
			if got := modes.Set(s, op, true); got != on || modes.Set(got, op, true) != on || modes.Set(got, op, false) != off {
				t.Errorf("Set(%d, true): %v", op, got)
			}
			if got := modes.Set(s, op, false); got != off || modes.Set(got, op, false) != off || modes.Set(got, op, true) != on {
				t.Errorf("Set(%d, false): %v", op, got)
			}
		}
		if s != before {
			t.Error("what was handed in is changed")
		}
	}
}

// P8.1: an opcode that is no flag's sets nothing.
func TestSetOfNoFlag(t *testing.T) {
	for _, s := range settings() {
		for _, op := range append(oddOpcodes(), 1, 2, 3, 4, 5, 6, 7, 8, 9, 10, 11, 12, 13, 14, 15, 16, 17, 18) {
			if modes.Set(s, op, true) != s || modes.Set(s, op, false) != s {
				t.Errorf("Set(%d), which is no flag", op)
			}
		}
	}
}

// P8.1: Char is each character that isn't Off; none is of another opcode.
func TestChar(t *testing.T) {
	for _, s := range settings() {
		for op := 1; op <= 18; op++ {
			c, ok := modes.Char(s, op)
			if want := s.Chars[op]; want == 255 && (c != 0 || ok) || want != 255 && (c != want || !ok) {
				t.Errorf("Char(%d), which is %d: %d, %t", op, want, c, ok)
			}
		}
		for _, op := range append(oddOpcodes(), flags...) {
			if c, ok := modes.Char(s, op); c != 0 || ok {
				t.Errorf("Char(%d), which is no character: %d, %t", op, c, ok)
			}
		}
	}
}

// P8.1: Char tells each byte but 255, and 0 is one.
func TestCharOfEachByte(t *testing.T) {
	for op := 1; op <= 18; op++ {
		for n := range 256 {
			var s api.Termios
			s.Chars[op] = byte(n)
			c, ok := modes.Char(s, op)
			if ok != (n != 255) || ok && int(c) != n || !ok && c != 0 {
				t.Errorf("Char(%d), which is %d: %d, %t", op, n, c, ok)
			}
		}
	}
}

// P8.1: Is holds one byte against one character; nothing is Off.
func TestIs(t *testing.T) {
	for _, s := range settings() {
		for n := range 256 {
			for op := 1; op <= 18; op++ {
				if want := n != 255 && s.Chars[op] == byte(n); modes.Is(s, op, byte(n)) != want {
					t.Errorf("Is(%d, %d) isn't %t: it is %d", op, n, want, s.Chars[op])
				}
			}
			for _, op := range append(oddOpcodes(), flags...) {
				if modes.Is(s, op, byte(n)) {
					t.Fatalf("Is(%d, %d), which is no character", op, n)
				}
			}
		}
	}
}

// P8.1: a setting is right, unless another bit is on, Chars[0] isn't 0, or Min or Time is no byte.
func TestRight(t *testing.T) {
	for _, r := range []api.Termios{{}, modes.Default(), {Flags: all(), In: math.MaxUint32, Out: math.MaxUint32, Min: 255, Time: 255}} {
		if !modes.Right(r) {
			t.Fatalf("%v isn't right", r)
		}
		for bit := range 64 {
			x := r
			x.Flags ^= 1 << bit
			if want := slices.Contains(flags, bit+30); modes.Right(x) != want {
				t.Errorf("bit %d: right isn't %t", bit, want)
			}
		}
		for n := range 256 {
			x, other := r, r
			x.Chars[0], other.Chars[1+n%18] = byte(n), byte(n)
			if modes.Right(x) != (n == 0) || !modes.Right(other) {
				t.Errorf("characters that are %d", n)
			}
		}
		for _, n := range []int{math.MinInt, math.MinInt32, -256, -255, -2, -1, 0, 1, 2, 127, 128, 254, 255, 256, 257, 512, 1 << 32, math.MaxInt} {
			x, other := r, r
			x.Min, other.Time = n, n
			if want := n >= 0 && n <= 255; modes.Right(x) != want || modes.Right(other) != want {
				t.Errorf("Min or Time %d: right isn't %t", n, want)
			}
		}
	}
}

// P8.2: the end of the bytes, 0, and each opcode from 160 on end a stream; what stands behind them says nothing.
func TestEnds(t *testing.T) {
	ends := [][]byte{{}, nil, {0}}
	for op := 160; op <= 255; op++ {
		ends = append(ends, []byte{byte(op)})
	}
	behind := [][]byte{
		nil, {0}, {1}, {160}, {1, 0, 0, 0}, {1, 0, 0, 1, 0}, {1, 0, 0, 0, 7}, {53, 0, 0, 0, 0}, {0, 0, 0, 1}, {0, 0, 0, 1, 53, 0, 0, 0, 0},
	}
	for _, s := range settings() {
		want := s
		want.Chars[2] = 77
		for _, end := range ends {
			for _, more := range behind {
				if len(end) == 0 && len(more) > 0 {
					continue
				}
				if got := decoded(t, stream(end, more), s); got != s {
					t.Fatalf("%x, %x: %v", end, more, got)
				}
				if got := decoded(t, stream(one(2, 77), end, more), s); got != want {
					t.Fatalf("a mode, %x, %x: %v", end, more, got)
				}
			}
		}
	}
}

// P8.2: each opcode below 160 has an argument of four bytes, and says what it says, and nothing else.
func TestEachOpcode(t *testing.T) {
	for _, s := range settings() {
		for op := 1; op < 160; op++ {
			for _, n := range []uint32{0, 1, 2, 127, 128, 254, 255, 256, 511, 1 << 16, 1<<16 + 1, 1 << 24, 1 << 31, math.MaxUint32} {
				want := s
				switch {
				case op <= 18 && n > 255:
					refused(t, one(byte(op), n), api.ErrRange)
					continue
				case op <= 18:
					want.Chars[op] = byte(n)
				case op == 128:
					want.In = n
				case op == 129:
					want.Out = n
				case slices.Contains(flags, op) && n == 0:
					want.Flags &^= 1 << (op - 30)
				case slices.Contains(flags, op):
					want.Flags |= 1 << (op - 30)
				}
				if got := decoded(t, one(byte(op), n), s); got != want {
					t.Errorf("opcode %d, argument %d: %v, not %v", op, n, got, want)
				}
				if got := decoded(t, stream(one(99, 1), one(byte(op), n), one(160, 7)), s); got != want {
					t.Errorf("opcode %d, argument %d, among others: %v, not %v", op, n, got, want)
				}
			}
		}
	}
}

// P8.2: an argument's bytes stand with the highest first.
func TestOrderOfBytes(t *testing.T) {
	if got := decoded(t, []byte{128, 1, 2, 3, 4, 129, 250, 251, 252, 253, 0}, api.Termios{}); got != (api.Termios{In: 0x01020304, Out: 0xfafbfcfd}) {
		t.Errorf("speeds %x, %x", got.In, got.Out)
	}
	refused(t, []byte{7, 1, 0, 0, 0}, api.ErrRange)
	refused(t, []byte{7, 0, 1, 0, 0}, api.ErrRange)
	refused(t, []byte{7, 0, 0, 1, 0}, api.ErrRange)
	for _, b := range [][]byte{{53, 1, 0, 0, 0}, {53, 0, 1, 0, 0}, {53, 0, 0, 1, 0}, {53, 0, 0, 0, 1}} {
		if !modes.Has(decoded(t, b, api.Termios{}), 53) {
			t.Errorf("%x: off", b)
		}
	}
}

// P8.2: bytes that end within an argument are too short, be the mode known or not, right or wrong.
func TestShort(t *testing.T) {
	for op := 1; op < 160; op++ {
		for size := 1; size < 5; size++ {
			for _, n := range []uint32{0, 1, 0x01010101, math.MaxUint32} {
				cut := one(byte(op), n)[:size]
				refused(t, cut, api.ErrShort)
				refused(t, stream(one(5, 4), one(53, 1), cut), api.ErrShort)
			}
		}
	}
}

// P8.2: the first error counts, mode by mode, and an end is ahead of all that stands behind it.
func TestOrderOfErrors(t *testing.T) {
	refused(t, stream(one(1, 256), one(2, 0)[:3]), api.ErrRange)
	refused(t, stream(one(1, 256), one(2, 0)), api.ErrRange)
	refused(t, stream(one(1, 256), one(1, 5), []byte{0}), api.ErrRange)
	refused(t, stream(one(1, 3), one(18, 256), []byte{0}), api.ErrRange)
	refused(t, stream(one(53, 256), one(1, 256)[:4]), api.ErrShort)
	refused(t, stream(one(19, 256), one(1, 256)), api.ErrRange)
	for _, end := range []byte{0, 160, 255} {
		if got := decoded(t, stream([]byte{end}, one(1, 256)), modes.Default()); got != modes.Default() {
			t.Errorf("behind %d: %v", end, got)
		}
	}
}

// encoded is the stream of a setting, as the document says it.
func encoded(s api.Termios) []byte {
	var b []byte
	for op := 1; op <= 18; op++ {
		b = append(b, one(byte(op), uint32(s.Chars[op]))...)
	}
	for _, op := range flags {
		b = append(b, one(byte(op), uint32(s.Flags>>(op-30)&1))...)
	}
	return append(stream(b, one(128, s.In), one(129, s.Out)), 0)
}

// P8.3: all of a setting stands in its stream, opcode by opcode, but Chars[0], other bits, Min and Time.
func TestEncode(t *testing.T) {
	for _, s := range settings() {
		if got := modes.Encode(s); !bytes.Equal(got, encoded(s)) {
			t.Errorf("Encode of %v: %x", s, got)
		}
		other := s
		other.Chars[0]++
		other.Flags ^= ^all()
		other.Min++
		other.Time--
		if !bytes.Equal(modes.Encode(other), encoded(s)) {
			t.Errorf("Encode of %v tells what it doesn't say", other)
		}
	}
}

// P8.3: each part of a setting is told by the one mode of its opcode.
func TestEncodeOfOnePart(t *testing.T) {
	least := modes.Encode(api.Termios{})
	tells := func(s api.Termios, place int, want []byte) {
		t.Helper()
		got := modes.Encode(s)
		at := 5 * place
		if len(got) != len(least) || !bytes.Equal(got[at:at+5], want) || !bytes.Equal(got[:at], least[:at]) || !bytes.Equal(got[at+5:], least[at+5:]) {
			t.Errorf("%v isn't told as %x: %x", s, want, got)
		}
	}
	for op := 1; op <= 18; op++ {
		for _, c := range []byte{1, 127, 128, 254, 255} {
			var s api.Termios
			s.Chars[op] = c
			tells(s, op-1, []byte{byte(op), 0, 0, 0, c})
		}
	}
	for i, op := range flags {
		tells(api.Termios{Flags: 1 << (op - 30)}, 18+i, []byte{byte(op), 0, 0, 0, 1})
	}
	tells(api.Termios{In: 0x12345678}, 18+len(flags), []byte{128, 0x12, 0x34, 0x56, 0x78})
	tells(api.Termios{Out: 0xfedcba98}, 19+len(flags), []byte{129, 0xfe, 0xdc, 0xba, 0x98})
}

// P8.4: what is encoded, decoded over any setting, is that setting's characters, flags and speeds; the rest is the other's.
func TestBack(t *testing.T) {
	for _, s := range settings() {
		for _, over := range settings() {
			want := over
			copy(want.Chars[1:], s.Chars[1:])
			want.Flags = s.Flags&all() | over.Flags&^all()
			want.In, want.Out = s.In, s.Out
			b := modes.Encode(s)
			if got := decoded(t, b, over); got != want {
				t.Errorf("%v over %v: %v", s, over, got)
			}
			if got := decoded(t, append(b, one(1, 256)...), over); got != want {
				t.Errorf("%v over %v, and more behind the end: %v", s, over, got)
			}
		}
	}
}

// P8.4: of two modes with one opcode the later one counts, whatever stands between them.
func TestLaterCounts(t *testing.T) {
	between := [][]byte{nil, one(99, 5), one(2, 9), stream(one(54, 1), one(19, 300), one(159, 0))}
	for _, over := range settings() {
		for _, more := range between {
			for _, x := range [][2]uint32{{0, 1}, {1, 0}, {255, 7}, {7, 255}, {3, 3}} {
				for op := 1; op < 160; op++ {
					both := decoded(t, stream(one(byte(op), x[0]), more, one(byte(op), x[1])), over)
					if later := decoded(t, stream(more, one(byte(op), x[1])), over); both != later {
						t.Fatalf("opcode %d, %d, then %d: %v, not %v", op, x[0], x[1], both, later)
					}
				}
			}
		}
	}
}

// told is what a stream says, read byte by byte.
func told(b []byte, s api.Termios) (api.Termios, api.Errno) {
	for at := 0; at < len(b) && b[at] != 0 && b[at] < 160; at += 5 {
		if at+5 > len(b) {
			return api.Termios{}, api.ErrShort
		}
		op, high, n := int(b[at]), b[at+1]|b[at+2]|b[at+3], b[at+4]
		switch {
		case op <= 18 && high != 0:
			return api.Termios{}, api.ErrRange
		case op <= 18:
			s.Chars[op] = n
		case op == 128 || op == 129:
			speed := uint32(b[at+1])<<24 + uint32(b[at+2])<<16 + uint32(b[at+3])<<8 + uint32(n)
			if op == 128 {
				s.In = speed
			} else {
				s.Out = speed
			}
		case slices.Contains(flags, op):
			s.Flags &^= 1 << (op - 30)
			if high|n != 0 {
				s.Flags |= 1 << (op - 30)
			}
		}
	}
	return s, api.OK
}

// anyStream is bytes that are a stream more or less: modes, few of them wrong, an end or none, cut at any place.
func anyStream(random *rand.Rand) []byte {
	var b []byte
	for range random.Intn(20) {
		op, n := byte(1+random.Intn(159)), random.Uint32()
		switch random.Intn(40) {
		case 0:
			op = byte(random.Intn(256))
		case 1, 2, 3:
			op = byte(128 + random.Intn(2))
		default:
			if n %= 256; n%3 == 0 {
				n = 0
			}
		}
		b = append(b, one(op, n)...)
	}
	if random.Intn(2) == 0 {
		b = append(b, 0)
	}
	return b[:len(b)-random.Intn(len(b)+1)*random.Intn(2)]
}

// P8.2, P8.4: streams of all kinds say what the document says, and neither bytes nor setting are changed.
func TestStreams(t *testing.T) {
	random := rand.New(rand.NewSource(84))
	count := map[api.Errno]int{}
	for range 30000 {
		b, over := anyStream(random), anySetting(random)
		if random.Intn(4) == 0 {
			random.Read(b)
		}
		room := append(slices.Clone(b), 53, 0, 0, 0, 1)
		before, setting := slices.Clone(room), over
		got, e := modes.Decode(room[:len(b)], over)
		want, wantE := told(b, setting)
		if got != want || e != wantE {
			t.Fatalf("Decode of %x over %v: %v, error %d, not %v, %d", b, setting, got, e, want, wantE)
		}
		if !bytes.Equal(room, before) || over != setting {
			t.Fatalf("Decode of %x changed what was handed in", b)
		}
		count[e]++
	}
	for _, e := range []api.Errno{api.OK, api.ErrShort, api.ErrRange} {
		if count[e] < 1000 {
			t.Errorf("error %d came just %d times", e, count[e])
		}
	}
}

// A long stream is read to its end, with the last mode of each opcode.
func TestLongStream(t *testing.T) {
	var b []byte
	for i := range 200000 {
		b = append(b, one(byte(1+i%18), uint32(i/18%255))...)
	}
	got := decoded(t, append(b, 0), api.Termios{})
	want, _ := told(b, api.Termios{})
	if got != want {
		t.Errorf("%v, not %v", got, want)
	}
	refused(t, append(b, 1), api.ErrShort)
}

// A stream is memory of its own, its spare room too.
func TestStreamsAreOwn(t *testing.T) {
	d := modes.Default()
	first, other := modes.Encode(d), modes.Encode(d)
	for i := range first[:cap(first)] {
		first[:cap(first)][i] = 99
	}
	if !bytes.Equal(other, encoded(d)) || !bytes.Equal(modes.Encode(d), encoded(d)) {
		t.Error("streams share memory")
	}
}
