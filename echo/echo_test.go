package echo_test

import (
	"bytes"
	"math"
	"math/rand"
	"slices"
	"strings"
	"testing"

	"parlour/api"
	"parlour/echo"
	"parlour/modes"
)

// The opcodes of the flags that this layer asks, and the last column that is taken as it is, as the document says them.
const (
	iutf8   = 42
	echoctl = 60
	last    = 65535
)

// stroke is what takes one column off the screen.
const stroke = "\x08\x20\x08"

// Settings with those of the two flags on, and nothing else.
var (
	none   = api.Termios{}
	signs  = api.Termios{Flags: 1 << (echoctl - 30)}
	wide   = api.Termios{Flags: 1 << (iutf8 - 30)}
	bothOn = api.Termios{Flags: 1<<(echoctl-30) | 1<<(iutf8-30)}
)

// settings is the two flags off and on, beside several ways to say all else, right ones and wrong ones.
func settings() []api.Termios {
	greatest := api.Termios{Flags: math.MaxUint64, In: math.MaxUint32, Out: math.MaxUint32, Min: math.MaxInt, Time: math.MaxInt}
	least := api.Termios{Flags: 1 << 63, Min: math.MinInt, Time: -1}
	for op := range greatest.Chars {
		greatest.Chars[op] = 255
		least.Chars[op] = []byte{9, 10, 3, 127}[op%4]
	}
	var l []api.Termios
	for _, t := range []api.Termios{none, modes.Default(), greatest, least} {
		for _, flags := range []api.Termios{none, signs, wide, bothOn} {
			t.Flags = t.Flags&^bothOn.Flags | flags.Flags
			l = append(l, t)
		}
	}
	return l
}

// hasSigns and isWide say whether ECHOCTL, or IUTF8, is on.
func hasSigns(t api.Termios) bool { return t.Flags&signs.Flags != 0 }
func isWide(t api.Termios) bool   { return t.Flags&wide.Flags != 0 }

// showOf is Show as the document says it.
func showOf(t api.Termios, c byte) string {
	if hasSigns(t) {
		switch {
		case c == 127:
			return "^?"
		case c < 32 && c != 9 && c != 10:
			return "^" + "@ABCDEFGH..KLMNOPQRSTUVWXYZ[\\]^_"[c:c+1]
		}
	}
	return string([]byte{c})
}

// lineOf is Line as the document says it.
func lineOf(t api.Termios, l []byte) string {
	var shown strings.Builder
	for _, c := range l {
		shown.WriteString(showOf(t, c))
	}
	return shown.String()
}

// stepOf is Step as the document says it, from a column on that isn't below 0.
func stepOf(t api.Termios, col int, c byte) int {
	if c == 9 {
		for col++; col%8 != 0; col++ {
		}
		return col
	}
	if shown := showOf(t, c); len(shown) == 2 {
		return col + 2
	}
	if c < 32 || c == 127 || isWide(t) && c >= 0x80 && c <= 0xbf {
		return col
	}
	return col + 1
}

// colsOf is Cols as the document says it.
func colsOf(t api.Termios, col int, l []byte) int {
	col = taken(col)
	for _, c := range l {
		col = stepOf(t, col, c)
	}
	return col
}

// taken is a column as it is taken.
func taken(col int) int {
	if col >= 0 && col <= last {
		return col
	}
	return 0
}

// rubOf is Rub as the document says it.
func rubOf(t api.Termios, col int, rest, gone []byte) string {
	return strings.Repeat(stroke, colsOf(t, col, slices.Concat(rest, gone))-colsOf(t, col, rest))
}

// wrongColumns is columns that are taken for 0.
func wrongColumns() []int {
	return []int{math.MinInt, math.MinInt + 1, math.MinInt32, -65536, -256, -8, -7, -2, -1, 65536, 65537, 65543, 65544, 1 << 17, math.MaxInt32, 1 << 32, 1<<32 + 5, math.MaxInt - 8, math.MaxInt - 1, math.MaxInt}
}

// columns is columns of each kind: those around tabs, the first and the last ones, and wrong ones.
func columns() []int {
	l := wrongColumns()
	for col := range 34 {
		l = append(l, col, last-col)
	}
	return append(l, 79, 80, 255, 256, 257, 4095, 4096, 32767, 32768)
}

// each is each byte once, the least first.
func each() []byte {
	b := make([]byte, 256)
	for i := range b {
		b[i] = byte(i)
	}
	return b
}

// anyLine is a line, bytes that mean something often in it.
func anyLine(random *rand.Rand, most int) []byte {
	line := make([]byte, random.Intn(most+1))
	for i := range line {
		line[i] = byte(random.Intn(256))
		if random.Intn(3) > 0 {
			line[i] = "\x00\x08\t\n\r\x1b\x1f az~\x7f\x80\x9f\xbf\xc0\xc3\xe2\xff"[random.Intn(19)]
		}
	}
	return line
}

// anyColumn is a column, a wrong one sometimes.
func anyColumn(random *rand.Rand) int {
	switch random.Intn(4) {
	case 0:
		return random.Intn(last + 1)
	case 1:
		return wrongColumns()[random.Intn(len(wrongColumns()))]
	}
	return random.Intn(100)
}

// shows checks what Show and Line answer of one byte.
func shows(t *testing.T, s api.Termios, c byte, want string) {
	t.Helper()
	if got := echo.Show(s, c); string(got) != want {
		t.Errorf("flags %x: Show of %x: %q, not %q", s.Flags, c, got, want)
	}
	if got := echo.Line(s, []byte{c}); string(got) != want {
		t.Errorf("flags %x: Line of %x: %q, not %q", s.Flags, c, got, want)
	}
}

// steps checks what Step and Cols answer of one byte.
func steps(t *testing.T, s api.Termios, col int, c byte, want int) {
	t.Helper()
	if got := echo.Step(s, col, c); got != want {
		t.Errorf("flags %x: Step of %x from %d: %d, not %d", s.Flags, c, col, got, want)
	}
	if got := echo.Cols(s, col, []byte{c}); got != want {
		t.Errorf("flags %x: Cols of %x from %d: %d, not %d", s.Flags, c, col, got, want)
	}
}

// goesTo checks what Cols answers.
func goesTo(t *testing.T, s api.Termios, col int, line string, want int) {
	t.Helper()
	if got := echo.Cols(s, col, []byte(line)); got != want {
		t.Errorf("flags %x: Cols of %q from %d: %d, not %d", s.Flags, line, col, got, want)
	}
}

// rubs checks how often Rub answers a stroke.
func rubs(t *testing.T, s api.Termios, col int, rest, gone string, times int) {
	t.Helper()
	if got := echo.Rub(s, col, []byte(rest), []byte(gone)); string(got) != strings.Repeat(stroke, times) {
		t.Errorf("flags %x: Rub of %q and %q from %d: %q, not %d strokes", s.Flags, rest, gone, col, got, times)
	}
}

// The opcodes of the flags are the document's.
func TestNames(t *testing.T) {
	if api.IUTF8 != iutf8 || api.ECHOCTL != echoctl {
		t.Error("a flag has another opcode")
	}
}

// The document's examples.
func TestExamples(t *testing.T) {
	d := modes.Default()
	shows(t, d, 3, "^C")
	shows(t, d, 127, "^?")
	shows(t, d, 9, "\t")
	rubs(t, d, 0, "ab", "\x09", 6)
}

// P11.1: what is shown as ^ and a sign, at the edges, and what isn't.
func TestShowEdges(t *testing.T) {
	for c, want := range map[byte]string{
		0: "^@", 1: "^A", 7: "^G", 8: "^H", 9: "\t", 10: "\n", 11: "^K", 12: "^L", 13: "^M", 26: "^Z", 27: "^[", 28: "^\\", 30: "^^", 31: "^_",
		32: " ", 33: "!", '?': "?", '@': "@", 'A': "A", '^': "^", 'z': "z", 126: "~", 127: "^?", 128: "\x80", 0x8d: "\x8d", 0xbf: "\xbf", 0xc0: "\xc0", 255: "\xff",
	} {
		for _, s := range []api.Termios{modes.Default(), signs, bothOn} {
			shows(t, s, c, want)
		}
		for _, s := range []api.Termios{modes.Set(modes.Default(), api.ECHOCTL, false), none, wide} {
			shows(t, s, c, string([]byte{c}))
		}
	}
}

// P11.1: each byte is shown by ECHOCTL, and by nothing else of a setting.
func TestShow(t *testing.T) {
	for _, s := range settings() {
		for _, c := range each() {
			shows(t, s, c, showOf(s, c))
		}
	}
}

// P11.1: a line is shown byte by byte, in order.
func TestLine(t *testing.T) {
	random := rand.New(rand.NewSource(111))
	for _, s := range settings() {
		for _, line := range [][]byte{nil, {}} {
			if got := echo.Line(s, line); len(got) != 0 {
				t.Errorf("flags %x: Line of nothing: %q", s.Flags, got)
			}
		}
		back := each()
		slices.Reverse(back)
		for _, line := range [][]byte{[]byte("a\x03\tb"), []byte("^C\x03^\x7f?"), each(), back} {
			if got := echo.Line(s, line); string(got) != lineOf(s, line) {
				t.Errorf("flags %x: Line of %q: %q", s.Flags, line, got)
			}
		}
		for range 500 {
			line := anyLine(random, 60)
			if got := echo.Line(s, line); string(got) != lineOf(s, line) {
				t.Fatalf("flags %x: Line of %q: %q", s.Flags, line, got)
			}
		}
	}
}

// P11.2: the column behind a byte, at the edges.
func TestStepEdges(t *testing.T) {
	for _, x := range []struct {
		t    api.Termios
		col  int
		c    byte
		want int
	}{
		{signs, 0, 'a', 1}, {none, 0, 'a', 1}, {signs, 7, ' ', 8}, {none, 79, '~', 80}, {signs, 5, 31, 7}, {signs, 5, 32, 6}, {signs, 5, 126, 6}, {signs, 5, 127, 7}, {signs, 5, 128, 6},
		{none, 5, 31, 5}, {none, 5, 32, 6}, {none, 5, 126, 6}, {none, 5, 127, 5}, {none, 5, 128, 6},
		{signs, 0, 9, 8}, {none, 0, 9, 8}, {signs, 1, 9, 8}, {signs, 6, 9, 8}, {signs, 7, 9, 8}, {signs, 8, 9, 16}, {signs, 9, 9, 16}, {none, 15, 9, 16}, {none, 16, 9, 24},
		{signs, 5, 10, 5}, {none, 5, 10, 5}, {signs, 5, 13, 7}, {none, 5, 13, 5}, {signs, 5, 8, 7}, {none, 5, 8, 5}, {none, 0, 8, 0}, {signs, 0, 0, 2}, {none, 0, 0, 0},
		{signs, 5, 0x7f, 7}, {bothOn, 5, 0x7f, 7}, {wide, 5, 0x7f, 5},
		{wide, 5, 0x80, 5}, {wide, 5, 0xa9, 5}, {wide, 5, 0xbf, 5}, {wide, 5, 0xc0, 6}, {wide, 5, 0xc3, 6}, {wide, 5, 0xff, 6}, {bothOn, 0, 0x80, 0},
		{none, 5, 0x80, 6}, {none, 5, 0xa9, 6}, {signs, 5, 0xbf, 6}, {signs, 5, 0xc0, 6}, {signs, 5, 0xff, 6},
		{signs, last, 10, last}, {none, last, 0, last}, {wide, last, 0x80, last}, {none, last - 1, 'a', last}, {signs, last - 2, 3, last}, {none, 65527, 9, 65528},
	} {
		steps(t, x.t, x.col, x.c, x.want)
	}
}

// P11.2: each byte, from each kind of column on, does what ECHOCTL and IUTF8 say, and nothing else of a setting.
func TestStep(t *testing.T) {
	for _, s := range settings() {
		for _, c := range each() {
			for _, col := range columns() {
				if want := stepOf(s, taken(col), c); want <= last {
					steps(t, s, col, c, want)
				}
			}
		}
	}
}

// P11.2: a column below 0, or above 65535, is taken for 0, and no other one is.
func TestWrongColumns(t *testing.T) {
	for _, s := range settings() {
		for _, col := range wrongColumns() {
			steps(t, s, col, 'a', 1)
			steps(t, s, col, '\t', 8)
			steps(t, s, col, '\n', 0)
			goesTo(t, s, col, "", 0)
			goesTo(t, s, col, "abc", 3)
			goesTo(t, s, col, "ab\tc", 9)
			rubs(t, s, col, "ab", "\t", 6)
			rubs(t, s, col, "", "\t", 8)
		}
		for col := range last + 1 {
			if got := echo.Cols(s, col, nil); got != col {
				t.Fatalf("flags %x: Cols of nothing from %d: %d", s.Flags, col, got)
			}
		}
	}
}

// P11.2: the bytes of a line go one after the other, each from where the one ahead of it left off.
func TestColsEdges(t *testing.T) {
	for _, x := range []struct {
		t    api.Termios
		col  int
		line string
		want int
	}{
		{signs, 0, "", 0}, {signs, 41, "", 41}, {signs, 0, "abc", 3}, {signs, 6, "abc", 9}, {signs, 0, "a\tb", 9}, {signs, 0, "\t\t", 16}, {signs, 3, "\t\ta", 17},
		{signs, 0, "abcdefg\t", 8}, {signs, 0, "abcdefgh\t", 16}, {signs, 0, "\x03\x03\x03\x03\t", 16}, {none, 0, "\x03\x03\x03\x03\t", 8}, {signs, 6, "\x03\t", 16},
		{signs, 0, "ab\ncd", 4}, {signs, 0, "ab\rcd", 6}, {none, 0, "ab\rcd", 4}, {none, 0, "ab\bcd", 4}, {signs, 0, "\x7f\x7f", 4}, {none, 0, "\x7f\x7f", 0},
		{signs, 0, "caf\xc3\xa9", 5}, {bothOn, 0, "caf\xc3\xa9", 4}, {wide, 0, "\xe2\x82\xac\xf0\x9f\x98\x80", 2}, {none, 0, "\xe2\x82\xac\xf0\x9f\x98\x80", 7},
		{wide, 0, "\x80\x80\x80\x80\x80\x80", 0}, {wide, 7, "\xc3\xa9\t", 16}, {wide, 6, "\xc3\xa9\t", 8}, {signs, 6, "\xc3\xa9\t", 16},
		{signs, last - 3, "abc", last}, {signs, 65520, "\ta\x03\x03\x03", last}, {none, last, "\x00\n\x7f", last},
	} {
		goesTo(t, x.t, x.col, x.line, x.want)
	}
	for _, s := range settings() {
		goesTo(t, s, 0, strings.Repeat("x", last), last)
		goesTo(t, s, 1, strings.Repeat("x", last-1), last)
		goesTo(t, s, 65000, strings.Repeat("\n", 1000), 65000)
	}
}

// P11.2: lines of any bytes go as far as the document says, whatever is set.
func TestCols(t *testing.T) {
	random := rand.New(rand.NewSource(112))
	for range 2000 {
		line, col := anyLine(random, 60), anyColumn(random)
		for _, s := range settings() {
			want := colsOf(s, col, line)
			if want > last {
				continue
			}
			goesTo(t, s, col, string(line), want)
			by := taken(col)
			for _, c := range line {
				by = echo.Step(s, by, c)
			}
			if by != want {
				t.Fatalf("flags %x: %q, step by step from %d: %d, not %d", s.Flags, line, col, by, want)
			}
			cut := random.Intn(len(line) + 1)
			goesTo(t, s, echo.Cols(s, col, line[:cut]), string(line[cut:]), want)
		}
	}
}

// P11.3: what is rubbed off, at the edges.
func TestRubEdges(t *testing.T) {
	for _, x := range []struct {
		t          api.Termios
		col        int
		rest, gone string
		times      int
	}{
		{signs, 0, "", "", 0}, {signs, 9, "ab", "", 0}, {signs, 0, "ab", "c", 1}, {signs, 0, "", "c", 1}, {signs, 0, "a", "bcd", 3}, {signs, 77, "a", "bcd", 3},
		{signs, 0, "ab", "\t", 6}, {signs, 0, "", "\t", 8}, {signs, 7, "", "\t", 1}, {signs, 8, "", "\t", 8}, {signs, 6, "a", "\t", 1}, {signs, 6, "ab", "\t", 8},
		{signs, 0, "a\t", "\t", 8}, {signs, 0, "ab", "\tc", 7}, {signs, 0, "ab", "c\t", 6}, {signs, 0, "ab", "c\td", 7}, {signs, 3, "", "ab\t\tc", 14},
		{signs, 0, "", "\x03", 2}, {none, 0, "", "\x03", 0}, {signs, 0, "ab", "\x7f", 2}, {none, 0, "ab", "\x7f", 0}, {signs, 0, "ab", "\n", 0}, {none, 0, "ab", "\n", 0},
		{signs, 0, "\x03", "\t", 6}, {none, 0, "\x03", "\t", 8}, {signs, 0, "", "a\x03b\x00", 6}, {none, 0, "", "a\x03b\x00", 2},
		{wide, 0, "a", "\xc3\xa9", 1}, {none, 0, "a", "\xc3\xa9", 2}, {wide, 0, "a\xc3", "\xa9", 0}, {none, 0, "a\xc3", "\xa9", 1}, {bothOn, 0, "a", "\xf0\x9f\x98\x80\x03", 3},
		{wide, 0, "\xc3\xa9", "\t", 7}, {none, 0, "\xc3\xa9", "\t", 6},
		{signs, last - 1, "", "a", 1}, {signs, last - 2, "a", "b", 1}, {none, last, "", "\x00", 0}, {signs, 65520, "", "\t", 8},
	} {
		rubs(t, x.t, x.col, x.rest, x.gone, x.times)
	}
	for _, s := range settings() {
		for _, nothing := range [][]byte{nil, {}} {
			if got := echo.Rub(s, 5, nothing, nothing); len(got) != 0 {
				t.Errorf("flags %x: Rub of nothing: %q", s.Flags, got)
			}
		}
		rubs(t, s, 0, strings.Repeat("x", last-255), strings.Repeat("y", 255), 255)
	}
}

// P11.3: each byte is rubbed off from each kind of column by as many strokes as it is wide there.
func TestRubEachByte(t *testing.T) {
	for _, s := range settings() {
		for _, c := range each() {
			for _, col := range columns() {
				from := taken(col)
				if to := stepOf(s, from, c); to <= last {
					rubs(t, s, col, "", string([]byte{c}), to-from)
				}
				if to := stepOf(s, from+1, c); to <= last {
					rubs(t, s, col, "x", string([]byte{c}), to-from-1)
				}
			}
		}
	}
}

// P11.3: of any bytes as many strokes come as the document says, whatever is set.
func TestRub(t *testing.T) {
	random := rand.New(rand.NewSource(113))
	for range 2000 {
		rest, gone, col := anyLine(random, 30), anyLine(random, 30), anyColumn(random)
		for _, s := range settings() {
			if colsOf(s, col, slices.Concat(rest, gone)) > last {
				continue
			}
			if got := echo.Rub(s, col, rest, gone); string(got) != rubOf(s, col, rest, gone) {
				t.Fatalf("flags %x: Rub of %q and %q from %d: %q", s.Flags, rest, gone, col, got)
			}
		}
	}
}

// P11.4: with ECHOCTL a line is shown with no byte below 32 but 9 and 10.
func TestNoControls(t *testing.T) {
	random := rand.New(rand.NewSource(114))
	isControl := func(c byte) bool { return (c < 32 || c == 127) && c != 9 && c != 10 }
	for _, s := range settings() {
		if !hasSigns(s) {
			continue
		}
		for range 500 {
			line := append(anyLine(random, 100), each()...)
			if shown := echo.Line(s, line); slices.ContainsFunc(shown, isControl) {
				t.Fatalf("flags %x: %q is shown as %q", s.Flags, line, shown)
			}
		}
	}
}

// P11.4: what is shown goes as far as the line that was typed, and a character one column wide is rubbed off by three bytes.
func TestShownAndRubbed(t *testing.T) {
	random := rand.New(rand.NewSource(1141))
	for range 2000 {
		rest, col := anyLine(random, 40), random.Intn(1000)
		for _, s := range settings() {
			goesTo(t, s, col, string(echo.Line(s, rest)), echo.Cols(s, col, rest))
			for _, one := range []string{" ", "a", "~"} {
				rubs(t, s, col, string(rest), one, 1)
			}
			if isWide(s) {
				for _, one := range []string{"\xc3\xa9", "\xe2\x82\xac", "\xf0\x9f\x98\x80"} {
					rubs(t, s, col, string(rest), one, 1)
				}
			}
		}
	}
}

// rubsInParts checks that what is rubbed off in two parts, the later one first, is rubbed off at once.
func rubsInParts(t *testing.T, s api.Termios, col int, rest, first, second []byte) {
	t.Helper()
	parts := slices.Concat(echo.Rub(s, col, slices.Concat(rest, first), second), echo.Rub(s, col, rest, first))
	if at := echo.Rub(s, col, rest, slices.Concat(first, second)); !bytes.Equal(parts, at) {
		t.Fatalf("flags %x: from %d: %d bytes rub %d, %d and %d bytes in parts, %d at once", s.Flags, col, len(parts), len(rest), len(first), len(second), len(at))
	}
}

// P11.4: two parts are rubbed off as one.
func TestRubInParts(t *testing.T) {
	random := rand.New(rand.NewSource(1142))
	for range 2000 {
		rest, first, second, col := anyLine(random, 20), anyLine(random, 20), anyLine(random, 20), anyColumn(random)
		for _, s := range settings() {
			rubsInParts(t, s, col, rest, first, second)
		}
	}
}

// Lines that go beyond column 65535 are answered, too, and rubbed off in parts as at once.
func TestFarColumns(t *testing.T) {
	for _, s := range settings() {
		for _, piece := range []string{"a", "\t", "\x03", "\x80", "\n", "a\t\x7f"} {
			long := []byte(strings.Repeat(piece, 20000))
			for _, col := range []int{0, 60000, last, last + 1} {
				echo.Cols(s, col, long)
				rubsInParts(t, s, col, long, long[:9], long)
			}
		}
		for _, c := range each() {
			echo.Step(s, last, c)
			rubsInParts(t, s, last, nil, []byte{c}, each())
		}
	}
}

// answers is the lists that the calls answer of two lines.
func answers(s api.Termios, one, two []byte) [][]byte {
	return [][]byte{echo.Line(s, one), echo.Line(s, two), echo.Rub(s, 3, one, two), echo.Rub(s, 0, two, one)}
}

// What is handed in is neither changed nor shared, its spare room included; and no two answers share any memory.
func TestMemory(t *testing.T) {
	random := rand.New(rand.NewSource(115))
	for range 300 {
		one, two := anyLine(random, 40), anyLine(random, 40)
		for _, s := range settings() {
			room := slices.Concat(one, two, []byte{1, 2, 3, 4, 5, 6, 7, 8, 9})
			before := slices.Clone(room)
			a, b := room[:len(one)], room[len(one):len(one)+len(two)]
			got, want := answers(s, a, b), answers(s, one, two)
			echo.Cols(s, 0, a)
			for i := range got {
				spoil(got[i])
				if !bytes.Equal(room, before) || !slices.EqualFunc(got[i+1:], want[i+1:], bytes.Equal) {
					t.Fatalf("flags %x: of %q and %q memory is shared", s.Flags, one, two)
				}
			}
			got = answers(s, a, b)
			spoil(room)
			if !slices.EqualFunc(got, want, bytes.Equal) {
				t.Fatalf("flags %x: of %q and %q an answer hangs on its argument", s.Flags, one, two)
			}
		}
	}
}

// Answers of Show share no memory with one another.
func TestShowApart(t *testing.T) {
	for _, s := range settings() {
		for _, c := range each() {
			first, second := echo.Show(s, c), echo.Show(s, c)
			spoil(first)
			if third := echo.Show(s, c); string(second) != showOf(s, c) || string(third) != showOf(s, c) {
				t.Fatalf("flags %x: answers of Show of %x share memory", s.Flags, c)
			}
		}
	}
}

// Many bytes are shown as few are.
func TestMany(t *testing.T) {
	for _, s := range []api.Termios{none, signs, wide, bothOn} {
		if got := echo.Line(s, bytes.Repeat(each(), 1024)); string(got) != strings.Repeat(lineOf(s, each()), 1024) {
			t.Errorf("flags %x: Line of many bytes: %d bytes", s.Flags, len(got))
		}
	}
}

// spoil writes into a list, its spare room included.
func spoil(b []byte) {
	b = b[:cap(b)]
	for i := range b {
		b[i] ^= 0x55
	}
}
