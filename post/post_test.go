package post_test

import (
	"bytes"
	"math"
	"math/rand"
	"slices"
	"strings"
	"testing"

	"parlour/api"
	"parlour/modes"
	"parlour/post"
)

// The opcodes of the flags that this layer asks, and the last column that there is, as the document says them.
const (
	iutf8  = 42
	opost  = 70
	olcuc  = 71
	onlcr  = 72
	ocrnl  = 73
	onocr  = 74
	onlret = 75
	last   = 65535
)

// asked is the flags that this layer asks.
func asked() []int { return []int{iutf8, opost, olcuc, onlcr, ocrnl, onocr, onlret} }

// with is a setting with those flags on, and nothing else.
func with(flags ...int) api.Termios {
	var t api.Termios
	for _, op := range flags {
		t.Flags |= 1 << (op - 30)
	}
	return t
}

// on says whether a flag is on.
func on(t api.Termios, op int) bool { return t.Flags>>(op-30)&1 == 1 }

// combinations is each of the flags that are asked off and on, in a setting that says all else.
func combinations(t api.Termios) []api.Termios {
	l := []api.Termios{t}
	for _, op := range asked() {
		for i := range l {
			off, on := l[i], l[i]
			off.Flags &^= with(op).Flags
			on.Flags |= with(op).Flags
			l[i] = off
			l = append(l, on)
		}
	}
	return l
}

// settings is the flags that are asked off and on, beside several ways to say all else, right ones and wrong ones.
func settings() []api.Termios {
	greatest := api.Termios{Flags: math.MaxUint64, In: math.MaxUint32, Out: math.MaxUint32, Min: math.MaxInt, Time: math.MaxInt}
	least := api.Termios{Flags: 1 << 63, Min: math.MinInt, Time: -1}
	for op := range greatest.Chars {
		greatest.Chars[op] = 255
		least.Chars[op] = []byte{9, 10, 13, 'a'}[op%4]
	}
	return slices.Concat(combinations(api.Termios{}), combinations(modes.Default()), combinations(greatest), combinations(least))
}

// movedOf is the column as a byte moves it, as the document says it.
func movedOf(t api.Termios, col int, c byte) int {
	switch {
	case c == 9:
		for col++; col%8 != 0; col++ {
		}
	case c == 8 && col > 0:
		col--
	case c == 13:
		col = 0
	case c < 32 || c == 127:
	case on(t, iutf8) && c >= 0x80 && c <= 0xbf:
	default:
		col++
	}
	return taken(col)
}

// byteOf is Byte as the document says it, from a column on that there is.
func byteOf(t api.Termios, col int, c byte) (string, int) {
	fed := col
	if on(t, onlret) {
		fed = 0
	}
	if on(t, opost) && c == 10 {
		if on(t, onlcr) {
			return "\r\n", 0
		}
		return "\n", fed
	}
	if on(t, opost) && c == 13 {
		if on(t, onocr) && col == 0 {
			return "", 0
		}
		if on(t, ocrnl) {
			return "\n", fed
		}
		return "\r", 0
	}
	if on(t, opost) && on(t, olcuc) && c >= 'a' && c <= 'z' {
		c = "ABCDEFGHIJKLMNOPQRSTUVWXYZ"[c-'a']
	}
	return string([]byte{c}), movedOf(t, col, c)
}

// bytesOf is Bytes as the document says it.
func bytesOf(t api.Termios, col int, b []byte) (string, int) {
	var out strings.Builder
	col = taken(col)
	for _, c := range b {
		var piece string
		piece, col = byteOf(t, col, c)
		out.WriteString(piece)
	}
	return out.String(), col
}

// fitOf is Fit as the document says it.
func fitOf(t api.Termios, col int, b []byte, room int) int {
	greatest := 0
	for n := range len(b) + 1 {
		if out, _ := bytesOf(t, col, b[:n]); room >= 0 && len(out) <= room {
			greatest = n
		}
	}
	return greatest
}

// taken is a column as it is taken.
func taken(col int) int {
	if col >= 0 && col <= last {
		return col
	}
	return 0
}

// wrongColumns is columns that are taken for 0.
func wrongColumns() []int {
	return []int{math.MinInt, math.MinInt + 1, math.MinInt32, -65536, -256, -8, -7, -2, -1, 65536, 65537, 65543, 65544, 1 << 17, math.MaxInt32, 1 << 32, 1<<32 + 5, math.MaxInt - 8, math.MaxInt - 1, math.MaxInt}
}

// columns is columns of each kind: those around tabs, the first and the last ones, and wrong ones.
func columns() []int {
	l := wrongColumns()
	for col := range 18 {
		l = append(l, col, last-col)
	}
	return append(l, 79, 80, 255, 256, 32767, 32768)
}

// each is each byte once, the least first.
func each() []byte {
	b := make([]byte, 256)
	for i := range b {
		b[i] = byte(i)
	}
	return b
}

// anyBytes is bytes, those that mean something often among them.
func anyBytes(random *rand.Rand, most int) []byte {
	b := make([]byte, random.Intn(most+1))
	for i := range b {
		b[i] = byte(random.Intn(256))
		if random.Intn(4) > 0 {
			b[i] = "\x00\x08\t\n\n\n\r\r\r\x1faz~\x7f\x80\xbf\xc0\xc3"[random.Intn(18)]
		}
	}
	return b
}

// anyColumn is a column: near the first or the last one, a wrong one, or any other one.
func anyColumn(random *rand.Rand) int {
	switch random.Intn(5) {
	case 0:
		return random.Intn(last + 1)
	case 1:
		return wrongColumns()[random.Intn(len(wrongColumns()))]
	case 2:
		return last - random.Intn(20)
	}
	return random.Intn(20)
}

// goes checks what Byte and Bytes answer of one byte.
func goes(t *testing.T, s api.Termios, col int, c byte, want string, behind int) {
	t.Helper()
	if got, to := post.Byte(s, col, c); string(got) != want || to != behind {
		t.Errorf("flags %x: Byte of %x at %d: %q, %d, not %q, %d", s.Flags, c, col, got, to, want, behind)
	}
	if got, to := post.Bytes(s, col, []byte{c}); string(got) != want || to != behind {
		t.Errorf("flags %x: Bytes of %x at %d: %q, %d, not %q, %d", s.Flags, c, col, got, to, want, behind)
	}
}

// goOut checks what Bytes answers.
func goOut(t *testing.T, s api.Termios, col int, b, want string, behind int) {
	t.Helper()
	if got, to := post.Bytes(s, col, []byte(b)); string(got) != want || to != behind {
		t.Errorf("flags %x: Bytes of %q at %d: %q, %d, not %q, %d", s.Flags, b, col, got, to, want, behind)
	}
}

// fits checks what Fit answers.
func fits(t *testing.T, s api.Termios, col int, b string, room, want int) {
	t.Helper()
	if got := post.Fit(s, col, []byte(b), room); got != want {
		t.Errorf("flags %x: Fit of %q at %d into %d: %d, not %d", s.Flags, b, col, room, got, want)
	}
}

// The opcodes of the flags are the document's.
func TestNames(t *testing.T) {
	if !slices.Equal(asked(), []int{api.IUTF8, api.OPOST, api.OLCUC, api.ONLCR, api.OCRNL, api.ONOCR, api.ONLRET}) {
		t.Error("a flag has another opcode")
	}
}

// The document's examples.
func TestExamples(t *testing.T) {
	d := modes.Default()
	goOut(t, d, 0, "a\n", "\x61\x0d\x0a", 0)
	goes(t, modes.Set(d, api.ONOCR, true), 0, 13, "", 0)
	fits(t, d, 0, "\n\n\n", 5, 2)
}

// P12.1: how a byte that goes out as it is moves the column, at the edges, with OPOST and without it.
func TestMoveEdges(t *testing.T) {
	for _, x := range []struct {
		col  int
		c    byte
		want int
	}{
		{0, 'a', 1}, {7, ' ', 8}, {79, '~', 80}, {5, 31, 5}, {5, 32, 6}, {5, 126, 6}, {5, 127, 5}, {5, 0, 5}, {5, 27, 5}, {5, 7, 5}, {5, 11, 5}, {5, 12, 5}, {5, 14, 5},
		{0, 9, 8}, {1, 9, 8}, {6, 9, 8}, {7, 9, 8}, {8, 9, 16}, {9, 9, 16}, {15, 9, 16}, {16, 9, 24}, {5, 8, 4}, {1, 8, 0}, {0, 8, 0}, {8, 8, 7}, {last, 8, last - 1},
		{5, 13, 0}, {0, 13, 0}, {last, 13, 0}, {5, 10, 5}, {0, 10, 0}, {last, 10, last},
		{last - 1, 'a', last}, {last, 'a', 0}, {last, ' ', 0}, {last, 0, last}, {last, 127, last}, {last, 0xff, 0}, {last - 1, 0xff, last}, {last, 9, 0}, {65528, 9, 0}, {65527, 9, 65528}, {65520, 9, 65528},
		{5, 0xc0, 6}, {5, 0xff, 6},
	} {
		for _, s := range []api.Termios{with(), with(opost), with(iutf8), with(opost, iutf8), with(olcuc, onlcr, ocrnl, onocr, onlret)} {
			goes(t, s, x.col, x.c, string([]byte{x.c}), x.want)
		}
	}
	for _, c := range []byte{0x80, 0xa9, 0xbf} {
		for _, flags := range [][]int{{}, {opost}, {opost, olcuc, onlret}} {
			goes(t, with(flags...), 5, c, string([]byte{c}), 6)
			goes(t, with(flags...), last, c, string([]byte{c}), 0)
			goes(t, with(append(flags, iutf8)...), 5, c, string([]byte{c}), 5)
			goes(t, with(append(flags, iutf8)...), last, c, string([]byte{c}), last)
		}
	}
}

// P12.1: what OPOST makes of the ends of lines, at the edges.
func TestEndEdges(t *testing.T) {
	for _, x := range []struct {
		flags  []int
		col    int
		c      byte
		want   string
		behind int
	}{
		{nil, 5, 10, "\n", 5}, {[]int{onlcr}, 5, 10, "\r\n", 0}, {[]int{onlcr}, 0, 10, "\r\n", 0}, {[]int{onlret}, 5, 10, "\n", 0}, {[]int{onlcr, onlret}, 5, 10, "\r\n", 0},
		{[]int{ocrnl}, 5, 10, "\n", 5}, {[]int{onocr}, 0, 10, "\n", 0}, {[]int{onocr, onlcr}, 0, 10, "\r\n", 0}, {[]int{olcuc}, 5, 10, "\n", 5},
		{nil, 5, 13, "\r", 0}, {nil, 0, 13, "\r", 0}, {[]int{onlcr}, 5, 13, "\r", 0}, {[]int{onlret}, 5, 13, "\r", 0},
		{[]int{onocr}, 0, 13, "", 0}, {[]int{onocr}, 1, 13, "\r", 0}, {[]int{onocr}, 5, 13, "\r", 0}, {[]int{onocr}, last, 13, "\r", 0}, {[]int{onocr}, last + 1, 13, "", 0}, {[]int{onocr}, -1, 13, "", 0},
		{[]int{ocrnl}, 5, 13, "\n", 5}, {[]int{ocrnl}, 0, 13, "\n", 0}, {[]int{ocrnl, onlret}, 5, 13, "\n", 0}, {[]int{ocrnl, onlcr}, 5, 13, "\n", 5}, {[]int{ocrnl, onlcr, onlret}, 5, 13, "\n", 0},
		{[]int{onocr, ocrnl}, 0, 13, "", 0}, {[]int{onocr, ocrnl}, 1, 13, "\n", 1}, {[]int{onocr, ocrnl, onlret}, 1, 13, "\n", 0}, {[]int{ocrnl}, last, 13, "\n", last},
	} {
		goes(t, with(append(x.flags, opost)...), x.col, x.c, x.want, x.behind)
	}
}

// P12.1: letters are made great from a to z alone, and by OPOST and OLCUC together alone.
func TestLetters(t *testing.T) {
	small, great := "abcdefghijklmnopqrstuvwxyz", "ABCDEFGHIJKLMNOPQRSTUVWXYZ"
	goOut(t, with(opost, olcuc), 3, small+great, great+great, 55)
	goOut(t, with(opost, olcuc), last, "a", "A", 0)
	goOut(t, with(opost, olcuc), 3, "`{@[\xe1\xfa\x01\x1a09", "`{@[\xe1\xfa\x01\x1a09", 11)
	for _, s := range []api.Termios{with(), with(opost), with(olcuc), with(olcuc, onlcr, iutf8), modes.Default()} {
		goOut(t, s, 3, small+great, small+great, 55)
	}
}

// P12.1: each byte, at each kind of column, does what the seven flags say, and nothing else of a setting.
func TestByte(t *testing.T) {
	l := columns()
	for _, s := range settings() {
		for _, c := range each() {
			for _, col := range l {
				want, behind := byteOf(s, taken(col), c)
				if got, to := post.Byte(s, col, c); string(got) != want || to != behind {
					t.Fatalf("flags %x: Byte of %x at %d: %q, %d, not %q, %d", s.Flags, c, col, got, to, want, behind)
				}
			}
		}
	}
}

// P12.1: a column below 0, or above 65535, is taken for 0, and no other one is.
func TestWrongColumns(t *testing.T) {
	for _, s := range combinations(modes.Default()) {
		for _, col := range wrongColumns() {
			goOut(t, s, col, "", "", 0)
			for _, c := range each() {
				want, behind := byteOf(s, 0, c)
				goes(t, s, col, c, want, behind)
			}
			fits(t, s, col, "\r\r", 1, fitOf(s, 0, []byte("\r\r"), 1))
		}
	}
	for col := range last + 1 {
		goOut(t, with(), col, "", "", col)
		goOut(t, with(opost), col, "\x00", "\x00", col)
	}
}

// P12.1: the bytes go one by one, each at the column behind the one ahead of it.
func TestBytesEdges(t *testing.T) {
	for _, x := range []struct {
		t       api.Termios
		col     int
		b, want string
		behind  int
	}{
		{with(), 41, "", "", 41}, {with(opost, onlcr), 41, "", "", 41}, {with(), 6, "abc", "abc", 9}, {with(), 0, "a\tb", "a\tb", 9}, {with(), 0, "\t\t", "\t\t", 16}, {with(), 0, "abcdefgh\t", "abcdefgh\t", 16},
		{with(), 3, "ab\ncd", "ab\ncd", 7}, {with(), 3, "ab\rcd", "ab\rcd", 2}, {with(), 0, "ab\b\b\bc", "ab\b\b\bc", 1}, {with(onlcr, onocr), 3, "\r\n\r\n", "\r\n\r\n", 0},
		{with(opost), 3, "ab\ncd", "ab\ncd", 7}, {with(opost, onlret), 3, "ab\ncd", "ab\ncd", 2}, {with(opost, onlcr), 3, "ab\ncd", "ab\r\ncd", 2}, {with(opost, onlcr), 3, "\n\n", "\r\n\r\n", 0}, {with(opost, onlcr), 3, "\r\n", "\r\r\n", 0},
		{with(opost, onocr), 3, "\r\r\ra\r", "\ra\r", 0}, {with(opost, onocr, onlcr), 3, "a\r\n\r", "a\r\r\n", 0}, {with(opost, onocr), 3, "\n\r\r", "\n\r", 0}, {with(opost, onocr, onlret), 3, "\n\r\r", "\n", 0}, {with(opost, onocr), 1, "\b\r", "\b", 0},
		{with(opost, onocr, ocrnl), 3, "\r\r\b\b\b\r", "\n\n\b\b\b", 0}, {with(opost, onocr, ocrnl, onlret), 3, "\r\r", "\n", 0}, {with(opost, ocrnl, onlcr), 3, "\r\n\r", "\n\r\n\n", 0},
		{with(opost, onocr), last, "a\r", "a", 0}, {with(opost, onocr), 65528, "\t\r", "\t", 0}, {with(opost, onocr), last, "\x00\r", "\x00\r", 0}, {with(opost, onocr, olcuc), last, "z\ra", "ZA", 1},
		{with(iutf8), 7, "\xc3\xa9\t", "\xc3\xa9\t", 16}, {with(iutf8), 6, "\xc3\xa9\t", "\xc3\xa9\t", 8}, {with(), 6, "\xc3\xa9\t", "\xc3\xa9\t", 16}, {with(opost, iutf8), 0, "caf\xc3\xa9 \xe2\x82\xac", "caf\xc3\xa9 \xe2\x82\xac", 6},
		{with(), last - 2, "abc", "abc", 0}, {with(), last - 2, "abcd", "abcd", 1}, {with(), last, "a\b", "a\b", 0}, {with(), 65520, "\t\t\t", "\t\t\t", 8},
	} {
		goOut(t, x.t, x.col, x.b, x.want, x.behind)
	}
	goOut(t, with(), 0, strings.Repeat("x", last), strings.Repeat("x", last), last)
	goOut(t, with(), 0, strings.Repeat("x", last+1), strings.Repeat("x", last+1), 0)
	goOut(t, with(opost, onlcr), 9, strings.Repeat("\n", 5000), strings.Repeat("\r\n", 5000), 0)
}

// P12.1: of any bytes, at any column, goes out what the document says, byte by byte as at once.
func TestBytes(t *testing.T) {
	random := rand.New(rand.NewSource(121))
	l := settings()
	for range 300 {
		b, col := anyBytes(random, 60), anyColumn(random)
		for _, s := range l {
			want, behind := bytesOf(s, col, b)
			goOut(t, s, col, string(b), want, behind)
			var out []byte
			to := taken(col)
			for _, c := range b {
				var piece []byte
				piece, to = post.Byte(s, to, c)
				out = append(out, piece...)
			}
			if string(out) != want || to != behind {
				t.Fatalf("flags %x: %q, byte by byte from %d: %q, %d, not %q, %d", s.Flags, b, col, out, to, want, behind)
			}
		}
	}
}

// P12.2: how many bytes fit, at the edges.
func TestFitEdges(t *testing.T) {
	for _, x := range []struct {
		t          api.Termios
		col        int
		b          string
		room, want int
	}{
		{with(), 0, "", 0, 0}, {with(), 0, "", 9, 0}, {with(), 0, "", -1, 0}, {with(), 0, "abc", 0, 0}, {with(), 0, "abc", 1, 1}, {with(), 0, "abc", 2, 2}, {with(), 0, "abc", 3, 3}, {with(), 0, "abc", 4, 3},
		{with(), 0, "abc", -1, 0}, {with(), 0, "abc", math.MinInt, 0}, {with(opost, onlcr), 0, "\n\n\n", math.MinInt, 0}, {with(opost, onlcr), 0, "\n\n\n", math.MinInt + 1, 0}, {with(), 0, "abc", math.MaxInt, 3},
		{with(opost, onlcr), 0, "\n\n\n", 0, 0}, {with(opost, onlcr), 0, "\n\n\n", 1, 0}, {with(opost, onlcr), 0, "\n\n\n", 2, 1}, {with(opost, onlcr), 0, "\n\n\n", 3, 1}, {with(opost, onlcr), 0, "\n\n\n", 6, 3}, {with(opost, onlcr), 0, "\n\n\n", math.MaxInt, 3},
		{with(opost), 0, "\n\n\n", 2, 2}, {with(onlcr), 0, "\n\n\n", 2, 2}, {with(opost, onlcr), 0, "a\nb", 2, 1}, {with(opost, onlcr), 0, "a\nb", 3, 2}, {with(opost, onlcr), 0, "\nab", 1, 0},
		{with(opost, onocr), 0, "\r\r\r", 0, 3}, {with(opost, onocr), 0, "\r\r\r", -1, 0}, {with(opost, onocr), 0, "\r\r\r", math.MinInt, 0}, {with(opost, onocr), 1, "\r\r\r", 0, 0}, {with(opost, onocr), 1, "\r\r\r", 1, 3}, {with(opost, onocr), last + 1, "\r\r\r", 0, 3},
		{with(opost, onocr), 0, "\r\ra\r\r", 0, 2}, {with(opost, onocr), 0, "\r\ra\r\r", 1, 3}, {with(opost, onocr), 0, "\r\ra\r\r", 2, 5}, {with(opost, onocr, onlcr), 5, "\n\r\r\r", 2, 4}, {with(opost, onocr, onlcr), 5, "\n\r\r\r", 1, 0},
		{with(opost, onocr, ocrnl), 3, "\r\r", 1, 1}, {with(opost, onocr, ocrnl, onlret), 3, "\r\r", 1, 2}, {with(opost, onocr), last, "a\r\r", 1, 3}, {with(opost, onocr), last - 1, "a\r\r", 1, 1},
	} {
		fits(t, x.t, x.col, x.b, x.room, x.want)
	}
	for _, s := range settings() {
		for _, room := range []int{math.MinInt, -65536, -1, 0, 1, math.MaxInt} {
			for _, nothing := range [][]byte{nil, {}} {
				if got := post.Fit(s, 5, nothing, room); got != 0 {
					t.Errorf("flags %x: Fit of nothing into %d: %d", s.Flags, room, got)
				}
			}
		}
	}
}

// P12.2: of any bytes as many fit as the document says, into any room.
func TestFit(t *testing.T) {
	random := rand.New(rand.NewSource(122))
	l := combinations(modes.Default())
	for range 60 {
		b, col := anyBytes(random, 12), anyColumn(random)
		for _, s := range l {
			for room := -2; room <= 2*len(b)+1; room++ {
				fits(t, s, col, string(b), room, fitOf(s, col, b, room))
			}
		}
	}
}

// P12.2: of long texts as many fit as fill the room.
func TestFitMany(t *testing.T) {
	for _, s := range settings() {
		fits(t, s, 0, strings.Repeat("x", 5000), api.MaxOutput, api.MaxOutput)
	}
	fits(t, with(opost, onlcr), 0, strings.Repeat("\n", 5000), api.MaxOutput, api.MaxOutput/2)
	fits(t, with(opost, onlcr), 0, strings.Repeat("\n", 5000), api.MaxOutput-1, api.MaxOutput/2-1)
	fits(t, with(opost, onocr), 0, strings.Repeat("\r", 5000), 0, 5000)
}

// P12.3: without OPOST bytes go out as they are.
func TestAsTheyAre(t *testing.T) {
	random := rand.New(rand.NewSource(1231))
	for _, s := range settings() {
		if on(s, opost) {
			continue
		}
		for range 40 {
			b, col := anyBytes(random, 100), anyColumn(random)
			if got, _ := post.Bytes(s, col, b); !bytes.Equal(got, b) {
				t.Fatalf("flags %x: of %q at %d goes out %q", s.Flags, b, col, got)
			}
			room := random.Intn(120)
			fits(t, s, col, string(b), room, min(room, len(b)))
		}
	}
}

// P12.3: at most two bytes go out of one, and the column is from 0 to 65535.
func TestBounds(t *testing.T) {
	for _, s := range combinations(modes.Default()) {
		for _, c := range each() {
			for _, col := range columns() {
				out, behind := post.Byte(s, col, c)
				if len(out) > 2 || behind < 0 || behind > last {
					t.Fatalf("flags %x: Byte of %x at %d: %q, %d", s.Flags, c, col, out, behind)
				}
			}
		}
	}
}

// P12.3: no byte 10 goes out without a 13 ahead of it, but for those that a 13 becomes.
func TestNewlines(t *testing.T) {
	random := rand.New(rand.NewSource(1232))
	for _, s := range settings() {
		if !on(s, opost) || !on(s, onlcr) {
			continue
		}
		for range 40 {
			b, col := anyBytes(random, 100), anyColumn(random)
			if on(s, ocrnl) {
				b = bytes.ReplaceAll(b, []byte("\r"), nil)
			}
			out, _ := post.Bytes(s, col, b)
			if n := bytes.Count(b, []byte("\n")); bytes.Count(out, []byte("\n")) != n || bytes.Count(out, []byte("\r\n")) != n {
				t.Fatalf("flags %x: of %q at %d goes out %q", s.Flags, b, col, out)
			}
		}
	}
}

// P12.3: bytes written apart are written at once, wherever they are cut: where the room ends, too.
func TestApart(t *testing.T) {
	random := rand.New(rand.NewSource(1233))
	for range 300 {
		b, col, room := anyBytes(random, 30), anyColumn(random), random.Intn(40)
		for _, s := range combinations(modes.Default()) {
			want, behind := post.Bytes(s, col, b)
			for _, n := range []int{random.Intn(len(b) + 1), post.Fit(s, col, b, room)} {
				first, at := post.Bytes(s, col, b[:n])
				second, to := post.Bytes(s, at, b[n:])
				if !bytes.Equal(slices.Concat(first, second), want) || to != behind {
					t.Fatalf("flags %x: %q at %d, cut at %d: %q, %q, %d, not %q, %d", s.Flags, b, col, n, first, second, to, want, behind)
				}
			}
		}
	}
}

// answers is the lists that the calls answer of bytes.
func answers(s api.Termios, one, two []byte) [][]byte {
	a, _ := post.Bytes(s, 3, one)
	b, _ := post.Bytes(s, 0, two)
	c, _ := post.Bytes(s, 3, one)
	return [][]byte{a, b, c}
}

// What is handed in is neither changed nor shared, its spare room included; and no two answers share any memory.
func TestMemory(t *testing.T) {
	random := rand.New(rand.NewSource(124))
	for range 100 {
		one, two := anyBytes(random, 40), anyBytes(random, 40)
		for _, s := range combinations(modes.Default()) {
			room := slices.Concat(one, two, []byte{1, 2, 3, 4, 5, 6, 7, 8, 9})
			before := slices.Clone(room)
			a, b := room[:len(one)], room[len(one):len(one)+len(two)]
			got, want := answers(s, a, b), answers(s, one, two)
			post.Fit(s, 0, a, 20)
			for i := range got {
				spoil(got[i])
				if !bytes.Equal(room, before) || !slices.EqualFunc(got[i+1:], want[i+1:], bytes.Equal) {
					t.Fatalf("flags %x: of %q and %q memory is shared", s.Flags, one, two)
				}
			}
			got = answers(s, a, b)
			spoil(room)
			if !slices.EqualFunc(got, want, bytes.Equal) {
				t.Fatalf("flags %x: of %q and %q an answer hangs on its argument", s.Flags, one, two)
			}
		}
	}
}

// Answers of Byte share no memory with one another.
func TestByteApart(t *testing.T) {
	for _, s := range combinations(modes.Default()) {
		for _, c := range each() {
			want, _ := byteOf(s, 5, c)
			first, _ := post.Byte(s, 5, c)
			second, _ := post.Byte(s, 5, c)
			spoil(first)
			if third, _ := post.Byte(s, 5, c); string(second) != want || string(third) != want {
				t.Fatalf("flags %x: answers of Byte of %x share memory", s.Flags, c)
			}
		}
	}
}

// Many bytes are written as few are.
func TestMany(t *testing.T) {
	many := bytes.Repeat(each(), 128)
	for _, s := range combinations(api.Termios{}) {
		want, behind := bytesOf(s, 7, many)
		if got, to := post.Bytes(s, 7, many); string(got) != want || to != behind {
			t.Errorf("flags %x: Bytes of many bytes: %d bytes, %d", s.Flags, len(got), to)
		}
		if n := post.Fit(s, 7, many, len(want)); n != len(many) {
			t.Errorf("flags %x: Fit of many bytes: %d", s.Flags, n)
		}
	}
}

// spoil writes into a list, its spare room included.
func spoil(b []byte) {
	b = b[:cap(b)]
	for i := range b {
		b[i] ^= 0x55
	}
}
