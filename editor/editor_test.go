package editor_test

import (
	"bytes"
	"math"
	"math/rand"
	"slices"
	"strings"
	"testing"
	"unicode/utf8"

	"parlour/api"
	"parlour/editor"
	"parlour/modes"
)

// The opcode of the flag that this layer asks, and how many bytes a line has that has room for none, as the document says them.
const (
	iutf8 = 42
	full  = 254
)

// plain and wide are settings without IUTF8 and with it, and nothing else on.
var (
	plain = api.Termios{}
	wide  = api.Termios{Flags: 1 << (iutf8 - 30)}
)

// settings is IUTF8 off and on, beside several ways to say all else, right ones and wrong ones.
func settings() []api.Termios {
	greatest := api.Termios{Flags: math.MaxUint64, In: math.MaxUint32, Out: math.MaxUint32, Min: math.MaxInt, Time: math.MaxInt}
	least := api.Termios{Flags: 1 << 63, Min: math.MinInt, Time: -1}
	for op := range greatest.Chars {
		greatest.Chars[op] = 255
		least.Chars[op] = []byte{9, 32, 0x80, 'a'}[op%4]
	}
	var l []api.Termios
	for _, t := range []api.Termios{plain, modes.Default(), greatest, least} {
		t.Flags &^= wide.Flags
		l = append(l, t)
		t.Flags |= wide.Flags
		l = append(l, t)
	}
	return l
}

// isWide says whether IUTF8 is on.
func isWide(t api.Termios) bool { return t.Flags&wide.Flags != 0 }

// lastOf is a line's last character as the document says it.
func lastOf(t api.Termios, line []byte) []byte {
	if !isWide(t) {
		return line[max(0, len(line)-1):]
	}
	tail := line[max(0, len(line)-4):]
	from := 0
	for at, c := range tail {
		if c < 0x80 || c > 0xbf {
			from = at
		}
	}
	return tail[from:]
}

// unitsOf is a line's characters as the document says them: the last one, and those of what is ahead of it.
func unitsOf(t api.Termios, line []byte) [][]byte {
	var back [][]byte
	for len(line) > 0 {
		last := lastOf(t, line)
		back = append(back, last)
		line = line[:len(line)-len(last)]
	}
	slices.Reverse(back)
	return back
}

// wordOf is how many of a line's characters Word leaves, as the document says it.
func wordOf(units [][]byte) int {
	k := len(units)
	for k > 0 && (string(units[k-1]) == " " || string(units[k-1]) == "\t") {
		k--
	}
	for k > 0 && string(units[k-1]) != " " && string(units[k-1]) != "\t" {
		k--
	}
	return k
}

// erases checks what Erase answers.
func erases(t *testing.T, s api.Termios, line, rest, gone string) {
	t.Helper()
	if a, b := editor.Erase(s, []byte(line)); string(a) != rest || string(b) != gone {
		t.Errorf("flags %x: Erase of %q: %q, %q, not %q, %q", s.Flags, line, a, b, rest, gone)
	}
}

// takesWord checks what Word answers.
func takesWord(t *testing.T, s api.Termios, line, rest, gone string) {
	t.Helper()
	if a, b := editor.Word(s, []byte(line)); string(a) != rest || string(b) != gone {
		t.Errorf("flags %x: Word of %q: %q, %q, not %q, %q", s.Flags, line, a, b, rest, gone)
	}
}

// hasUnits checks what Units answers.
func hasUnits(t *testing.T, s api.Termios, line string, want ...string) {
	t.Helper()
	var got []string
	for _, unit := range editor.Units(s, []byte(line)) {
		got = append(got, string(unit))
	}
	if !slices.Equal(got, want) {
		t.Errorf("flags %x: Units of %q: %q, not %q", s.Flags, line, got, want)
	}
}

// follows checks what Erase, Word and Units answer of a line, against the document's words.
func follows(t *testing.T, s api.Termios, line []byte) {
	t.Helper()
	units := unitsOf(s, line)
	if got := editor.Units(s, line); !slices.EqualFunc(got, units, bytes.Equal) {
		t.Fatalf("flags %x: Units of %q: %q, not %q", s.Flags, line, got, units)
	}
	last := max(0, len(units)-1)
	erases(t, s, string(line), string(bytes.Join(units[:last], nil)), string(bytes.Join(units[last:], nil)))
	k := wordOf(units)
	takesWord(t, s, string(line), string(bytes.Join(units[:k], nil)), string(bytes.Join(units[k:], nil)))
}

// allLines calls f with each line of so many bytes at most that is made of some bytes.
func allLines(of string, most int, f func(line []byte)) {
	lines := [][]byte{nil}
	for range most + 1 {
		var longer [][]byte
		for _, line := range lines {
			f(line)
			for _, c := range []byte(of) {
				longer = append(longer, slices.Concat(line, []byte{c}))
			}
		}
		lines = longer
	}
}

// anyLine is a line, bytes that mean something often in it.
func anyLine(random *rand.Rand, most int) []byte {
	line := make([]byte, random.Intn(most+1))
	for i := range line {
		line[i] = byte(random.Intn(256))
		if random.Intn(3) > 0 {
			line[i] = " \ta\x7f\x80\x9f\xbf\xc0\xc3\xe2\xf0\xff\x20\x8a"[random.Intn(14)]
		}
	}
	return line
}

// anyText is a text in UTF-8, and its characters, of each length.
func anyText(random *rand.Rand, most int) (string, []string) {
	var l []string
	for range random.Intn(most + 1) {
		r := []rune{' ', 9, 'x', 127, 0x80, 0xe9, 0x7ff, 0x800, 0x20ac, 0xffff, 0x10000, 0x1f600, 0x10ffff, rune(random.Intn(0xd800))}[random.Intn(14)]
		l = append(l, string(r))
	}
	return strings.Join(l, ""), l
}

// The opcode of the flag and the limit are the document's.
func TestNames(t *testing.T) {
	if api.IUTF8 != iutf8 || api.MaxCanon-1 != full {
		t.Error("another flag, or another limit")
	}
}

// The document's examples.
func TestExamples(t *testing.T) {
	takesWord(t, modes.Default(), "ab cd ", "ab ", "cd ")
	takesWord(t, modes.Set(modes.Default(), api.IUTF8, true), "ab cd ", "ab ", "cd ")
	erases(t, modes.Set(modes.Default(), api.IUTF8, true), "\x61\xc3\xa9", "\x61", "\xc3\xa9")
	erases(t, modes.Default(), "\x61\xc3\xa9", "\x61\xc3", "\xa9")
}

// P10.1: a byte more stands behind a line of each length, each byte alike, as long as there is room.
func TestPut(t *testing.T) {
	random := rand.New(rand.NewSource(101))
	for length := range full + 60 {
		line := make([]byte, length)
		random.Read(line)
		for n := range 256 {
			c := byte(n)
			want, room := string(line), length < full
			if room {
				want += string([]byte{c})
			}
			if got, ok := editor.Put(line, c); string(got) != want || ok != room {
				t.Fatalf("Put of %x behind %d bytes: %x, %t", c, length, got, ok)
			}
		}
	}
}

// P10.1: at the edges: no line, the last byte that has room, the first that hasn't, and lines that are longer than any that is typed.
func TestPutEdges(t *testing.T) {
	for _, line := range [][]byte{nil, {}} {
		if got, ok := editor.Put(line, 'a'); string(got) != "a" || !ok {
			t.Errorf("Put behind nothing: %q, %t", got, ok)
		}
	}
	for _, length := range []int{252, 253} {
		line := strings.Repeat("x", length)
		if got, ok := editor.Put([]byte(line), 0); string(got) != line+"\x00" || !ok {
			t.Errorf("Put behind %d bytes: %d bytes, %t", length, len(got), ok)
		}
	}
	for _, length := range []int{254, 255, 256, 509, 510, 1024, 1 << 16} {
		line := strings.Repeat("x", length)
		if got, ok := editor.Put([]byte(line), 0); string(got) != line || ok {
			t.Errorf("Put behind %d bytes: %d bytes, %t", length, len(got), ok)
		}
	}
}

// P10.1: a line that is put together byte by byte is those bytes, 254 at most.
func TestPutMany(t *testing.T) {
	var line []byte
	for n := range 400 {
		c := byte(n * 7)
		longer, ok := editor.Put(line, c)
		if ok != (n < full) || ok && (len(longer) != n+1 || longer[n] != c) || !bytes.Equal(longer[:len(line)], line) {
			t.Fatalf("Put of byte %d: %x, %t", n, longer, ok)
		}
		line = longer
	}
	if len(line) != full {
		t.Errorf("a line has %d bytes", len(line))
	}
}

// P10.2: the last character, at the edges of what goes on with one.
func TestEraseEdges(t *testing.T) {
	for _, x := range []struct {
		t                api.Termios
		line, rest, gone string
	}{
		{plain, "", "", ""}, {wide, "", "", ""},
		{plain, "a", "", "a"}, {wide, "a", "", "a"}, {plain, "\x00", "", "\x00"}, {wide, "\x00", "", "\x00"},
		{plain, "ab", "a", "b"}, {wide, "ab", "a", "b"}, {plain, "a ", "a", " "}, {wide, "a\t", "a", "\t"},
		{plain, "a\x80", "a", "\x80"}, {plain, "a\xbf", "a", "\xbf"}, {plain, "\xf0\x9f\x98\x80", "\xf0\x9f\x98", "\x80"},
		{wide, "ab\x7f", "ab", "\x7f"}, {wide, "ab\x80", "a", "b\x80"}, {wide, "ab\xbf", "a", "b\xbf"}, {wide, "ab\xc0", "ab", "\xc0"}, {wide, "ab\xff", "ab", "\xff"},
		{wide, "\x80", "", "\x80"}, {wide, "\xa9\xa9", "", "\xa9\xa9"}, {wide, "\xa9\xa9\xa9", "", "\xa9\xa9\xa9"}, {wide, "\xa9\xa9\xa9\xa9", "", "\xa9\xa9\xa9\xa9"},
		{wide, "\xa8\xa9\xa9\xa9\xa9", "\xa8", "\xa9\xa9\xa9\xa9"}, {wide, "b\xa9\xa9\xa9", "", "b\xa9\xa9\xa9"}, {wide, "b\xa9\xa9\xa9\xa9", "b", "\xa9\xa9\xa9\xa9"},
		{wide, "b\xa9\xa9\xa9\xa9\xa9", "b\xa9", "\xa9\xa9\xa9\xa9"}, {wide, "ab\xa9\xa9\xa9", "a", "b\xa9\xa9\xa9"},
		{wide, "\xc3\xa9\xc3\xa9", "\xc3\xa9", "\xc3\xa9"}, {wide, "\xa9\xc3", "\xa9", "\xc3"}, {wide, "a\xe2\x82\xac", "a", "\xe2\x82\xac"}, {wide, "a\xf0\x9f\x98\x80", "a", "\xf0\x9f\x98\x80"},
		{wide, "a\xf8\x9f\x98\x80\x80", "a\xf8", "\x9f\x98\x80\x80"}, {wide, "\xe2\x82\xac\xac", "", "\xe2\x82\xac\xac"}, {wide, " \x80", "", " \x80"},
	} {
		erases(t, x.t, x.line, x.rest, x.gone)
	}
	for _, s := range settings() {
		for _, line := range [][]byte{nil, {}} {
			if rest, gone := editor.Erase(s, line); len(rest) != 0 || len(gone) != 0 {
				t.Errorf("flags %x: Erase of nothing: %q, %q", s.Flags, rest, gone)
			}
		}
	}
}

// P10.2: each byte behind a letter, alone and with others behind it that go on, is told by the same bounds.
func TestEraseEachByte(t *testing.T) {
	for n := range 256 {
		c := string([]byte{byte(n)})
		erases(t, plain, "ab"+c, "ab", c)
		erases(t, plain, "ab"+c+"\x80\x80", "ab"+c+"\x80", "\x80")
		if n >= 0x80 && n <= 0xbf {
			erases(t, wide, "ab"+c, "a", "b"+c)
			erases(t, wide, "ab"+c+"\x80\x80", "a", "b"+c+"\x80\x80")
			erases(t, wide, "ab"+c+"\x80\x80\x80", "ab", c+"\x80\x80\x80")
		} else {
			erases(t, wide, "ab"+c, "ab", c)
			erases(t, wide, "ab"+c+"\x80\x80", "ab", c+"\x80\x80")
			erases(t, wide, "ab"+c+"\x80\x80\x80", "ab", c+"\x80\x80\x80")
			erases(t, wide, "ab"+c+"\x80\x80\x80\x80", "ab"+c, "\x80\x80\x80\x80")
		}
	}
}

// P10.3: the last word, with the blanks behind it, and without those ahead.
func TestWordEdges(t *testing.T) {
	for _, x := range []struct{ line, rest, gone string }{
		{"", "", ""}, {"a", "", "a"}, {"ab", "", "ab"}, {" ", "", " "}, {"\t", "", "\t"}, {" \t \t", "", " \t \t"},
		{"a ", "", "a "}, {"a\t", "", "a\t"}, {" a", " ", "a"}, {"\ta", "\t", "a"}, {" a ", " ", "a "}, {"\t ab \t", "\t ", "ab \t"},
		{"ab cd", "ab ", "cd"}, {"ab\tcd", "ab\t", "cd"}, {"ab cd  ", "ab ", "cd  "}, {"ab  cd", "ab  ", "cd"}, {"ab \t cd\t \t", "ab \t ", "cd\t \t"},
		{"a b c", "a b ", "c"}, {"a b c ", "a b ", "c "}, {"ab.cd/ef-gh", "", "ab.cd/ef-gh"}, {"x ab.cd", "x ", "ab.cd"},
		{"a\nb", "", "a\nb"}, {"a\rb\vc\fd\x00e", "", "a\rb\vc\fd\x00e"}, {"a \n", "a ", "\n"}, {"a \n ", "a ", "\n "}, {"a\x08b\x1fc!", "", "a\x08b\x1fc!"},
	} {
		for _, s := range settings() {
			takesWord(t, s, x.line, x.rest, x.gone)
		}
	}
	for _, s := range settings() {
		for _, line := range [][]byte{nil, {}} {
			if rest, gone := editor.Word(s, line); len(rest) != 0 || len(gone) != 0 {
				t.Errorf("flags %x: Word of nothing: %q, %q", s.Flags, rest, gone)
			}
		}
	}
}

// P10.3: words are told character by character: a byte 32 or 9 that another byte goes on with is no blank.
func TestWordOfCharacters(t *testing.T) {
	for _, x := range []struct {
		t                api.Termios
		line, rest, gone string
	}{
		{wide, "x \xe2\x82\xac", "x ", "\xe2\x82\xac"}, {plain, "x \xe2\x82\xac", "x ", "\xe2\x82\xac"},
		{wide, "x \xe2\x82\xac ", "x ", "\xe2\x82\xac "}, {wide, "\xc3\xa9 \xc3\xa9\xc3\xa9", "\xc3\xa9 ", "\xc3\xa9\xc3\xa9"},
		{plain, "x \x80", "x ", "\x80"}, {wide, "x \x80", "", "x \x80"}, {plain, "x\t\xbf ", "x\t", "\xbf "}, {wide, "x\t\xbf ", "", "x\t\xbf "},
		{wide, "x \x80\x80", "", "x \x80\x80"}, {wide, "x \x80\x80\x80", "", "x \x80\x80\x80"}, {wide, "x \x80\x80\x80\x80", "x ", "\x80\x80\x80\x80"},
		{wide, "x  \x80", "x ", " \x80"}, {plain, "x  \x80", "x  ", "\x80"}, {wide, "y x \x80", "y ", "x \x80"},
		{wide, "a \x80\x80\x80\x80\x80", "", "a \x80\x80\x80\x80\x80"}, {wide, "\x80 ", "", "\x80 "}, {wide, " \x80 ", "", " \x80 "},
		{wide, "a \xa0", "", "a \xa0"}, {wide, "a\xc2\xa0b", "", "a\xc2\xa0b"}, {plain, "a\xa0b", "", "a\xa0b"}, {wide, "a\xe3\x80\x80b", "", "a\xe3\x80\x80b"}, {plain, "a\x85", "", "a\x85"},
	} {
		takesWord(t, x.t, x.line, x.rest, x.gone)
	}
}

// P10.3: 32 and 9 are blanks, and no other byte.
func TestBlanks(t *testing.T) {
	for _, s := range settings() {
		for n := range 256 {
			c := string([]byte{byte(n)})
			if c == " " || c == "\t" {
				takesWord(t, s, "x"+c+"a", "x"+c, "a")
				takesWord(t, s, "x a"+c, "x ", "a"+c)
			} else {
				takesWord(t, s, "x y"+c+"a", "x ", "y"+c+"a")
				takesWord(t, s, "x a"+c, "x ", "a"+c)
				takesWord(t, s, "x y"+c+" ", "x ", "y"+c+" ")
			}
		}
	}
}

// P10.4: the characters, in order.
func TestUnits(t *testing.T) {
	hasUnits(t, plain, "")
	hasUnits(t, wide, "")
	hasUnits(t, plain, "ab c", "a", "b", " ", "c")
	hasUnits(t, wide, "ab c", "a", "b", " ", "c")
	hasUnits(t, plain, "a\xc3\xa9", "a", "\xc3", "\xa9")
	hasUnits(t, wide, "a\xc3\xa9", "a", "\xc3\xa9")
	hasUnits(t, wide, "\xc3\xa9a\xe2\x82\xac\xf0\x9f\x98\x80\t", "\xc3\xa9", "a", "\xe2\x82\xac", "\xf0\x9f\x98\x80", "\t")
	hasUnits(t, wide, "\xa9\xa9", "\xa9\xa9")
	hasUnits(t, wide, "b\xa9\xa9\xa9\xa9\xa9", "b\xa9", "\xa9\xa9\xa9\xa9")
	hasUnits(t, wide, "\xa1\xa2\xa3\xa4\xa5\xa6\xa7\xa8\xa9", "\xa1", "\xa2\xa3\xa4\xa5", "\xa6\xa7\xa8\xa9")
	hasUnits(t, wide, "\xc3\xc3\xa9\xff\x80", "\xc3", "\xc3\xa9", "\xff\x80")
	for _, s := range settings() {
		if got := editor.Units(s, nil); len(got) != 0 {
			t.Errorf("flags %x: Units of nil: %q", s.Flags, got)
		}
		if got := editor.Units(s, []byte{}); len(got) != 0 {
			t.Errorf("flags %x: Units of no bytes: %q", s.Flags, got)
		}
	}
}

// P10.2 to P10.4: all short lines, of bytes of each sort, are cut as the document says.
func TestAllShortLines(t *testing.T) {
	for _, s := range []api.Termios{plain, wide} {
		allLines(" \ta\x80\xbf\xc3", 6, func(line []byte) { follows(t, s, line) })
		allLines(" \x80", 12, func(line []byte) { follows(t, s, line) })
	}
}

// P10.2 to P10.4: lines of any bytes are cut as the document says, by IUTF8 and by nothing else of a setting.
func TestAnyLines(t *testing.T) {
	random := rand.New(rand.NewSource(10))
	for range 2000 {
		line := anyLine(random, 40)
		for _, s := range settings() {
			follows(t, s, line)
		}
	}
	for range 100 {
		line := anyLine(random, 1024)
		for _, s := range settings() {
			follows(t, s, line)
		}
	}
}

// P10.5: what is left and what is gone are the line, and the characters are it, too.
func TestNothingIsLost(t *testing.T) {
	random := rand.New(rand.NewSource(105))
	for range 3000 {
		line := anyLine(random, 60)
		for _, s := range settings() {
			rest, gone := editor.Erase(s, line)
			if !bytes.Equal(slices.Concat(rest, gone), line) || len(line) > 0 && len(gone) == 0 {
				t.Fatalf("flags %x: Erase of %q: %q, %q", s.Flags, line, rest, gone)
			}
			rest, gone = editor.Word(s, line)
			if !bytes.Equal(slices.Concat(rest, gone), line) || len(line) > 0 && len(gone) == 0 {
				t.Fatalf("flags %x: Word of %q: %q, %q", s.Flags, line, rest, gone)
			}
			if units := editor.Units(s, line); !bytes.Equal(bytes.Join(units, nil), line) {
				t.Fatalf("flags %x: Units of %q: %q", s.Flags, line, units)
			}
		}
	}
}

// P10.5: Erase takes the characters one by one, the last one first, and as often as there are any leaves nothing; Word is Erase some times.
func TestEraseByErase(t *testing.T) {
	random := rand.New(rand.NewSource(510))
	for range 3000 {
		line := anyLine(random, 60)
		for _, s := range settings() {
			word, _ := editor.Word(s, line)
			units := editor.Units(s, line)
			rest, gone, isWord := line, []byte(nil), bytes.Equal(word, line)
			for i := len(units) - 1; i >= 0; i-- {
				rest, gone = editor.Erase(s, rest)
				if !bytes.Equal(gone, units[i]) {
					t.Fatalf("flags %x: Erase of %q takes %q, not %q", s.Flags, line, gone, units[i])
				}
				isWord = isWord || bytes.Equal(word, rest)
			}
			if len(rest) != 0 || !isWord {
				t.Fatalf("flags %x: Erase of %q leaves %q; %q was asked on the way", s.Flags, line, rest, word)
			}
		}
	}
}

// P10.5: without IUTF8 each byte is a character.
func TestEachByte(t *testing.T) {
	random := rand.New(rand.NewSource(1051))
	for range 2000 {
		line := anyLine(random, 60)
		for _, s := range settings() {
			if isWide(s) {
				continue
			}
			units := editor.Units(s, line)
			if len(units) != len(line) {
				t.Fatalf("flags %x: Units of %q: %q", s.Flags, line, units)
			}
			for i, unit := range units {
				if !bytes.Equal(unit, line[i:i+1]) {
					t.Fatalf("flags %x: Units of %q: %q", s.Flags, line, units)
				}
			}
		}
	}
}

// P10.5: of a text in UTF-8 with IUTF8 each of its characters is one.
func TestText(t *testing.T) {
	random := rand.New(rand.NewSource(1052))
	for range 3000 {
		text, characters := anyText(random, 40)
		if !utf8.ValidString(text) || utf8.RuneCountInString(text) != len(characters) {
			t.Fatalf("%q is no text", text)
		}
		for _, s := range settings() {
			if isWide(s) {
				hasUnits(t, s, text, characters...)
			}
		}
	}
}

// Lines of many bytes are cut as short ones are.
func TestMany(t *testing.T) {
	const many = 1 << 18
	for _, x := range []struct {
		t     api.Termios
		piece string
		each  int
	}{
		{plain, "ab", 2}, {wide, "ab", 2}, {wide, "\xf0\x9f\x98\x80", 1}, {plain, "\xf0\x9f\x98\x80", 4}, {wide, "\x80\x80\x80\x80", 1}, {wide, " \x80", 1},
	} {
		line := strings.Repeat(x.piece, many)
		takesWord(t, x.t, " "+line, " ", line)
		takesWord(t, x.t, "a b"+strings.Repeat("\t ", many), "a ", "b"+strings.Repeat("\t ", many))
		if units := editor.Units(x.t, []byte(line)); len(units) != x.each*many || string(bytes.Join(units, nil)) != line {
			t.Errorf("flags %x: %d units of %q, many times", x.t.Flags, len(units), x.piece)
		}
	}
}

// answers is the lists that each call answers of a line.
func answers(s api.Termios, line []byte) [][]byte {
	put, _ := editor.Put(line, 'x')
	rest, gone := editor.Erase(s, line)
	left, word := editor.Word(s, line)
	return append([][]byte{put, rest, gone, left, word}, editor.Units(s, line)...)
}

// What is handed in is neither changed nor shared, its spare room included; and no two lists that are answered share any.
func TestMemory(t *testing.T) {
	random := rand.New(rand.NewSource(104))
	lines := [][]byte{nil, {}, []byte("a"), []byte("ab cd "), bytes.Repeat([]byte("x"), full), bytes.Repeat([]byte("\xc3\xa9 "), 200)}
	for range 200 {
		lines = append(lines, anyLine(random, 40))
	}
	for _, line := range lines {
		for _, s := range settings() {
			room := append(slices.Clone(line), 1, 2, 3, 4, 5, 6, 7, 8, 9)
			before := slices.Clone(room)
			got := answers(s, room[:len(line)])
			want := answers(s, slices.Clone(line))
			if !bytes.Equal(room, before) {
				t.Fatalf("flags %x: of %q the argument is changed", s.Flags, line)
			}
			for i := range got {
				spoil(got[i])
				for k := range got[i+1:] {
					if !bytes.Equal(got[i+1+k], want[i+1+k]) {
						t.Fatalf("flags %x: of %q the lists %d and %d share memory", s.Flags, line, i, i+1+k)
					}
				}
			}
			if !bytes.Equal(room, before) {
				t.Fatalf("flags %x: of %q the argument is shared", s.Flags, line)
			}
			got = answers(s, room[:len(line)])
			spoil(room)
			if !slices.EqualFunc(got, want, bytes.Equal) {
				t.Fatalf("flags %x: of %q an answer hangs on the argument", s.Flags, line)
			}
		}
	}
}

// A line that is written behind keeps those that were made of it: Put, twice behind one line, answers two lines.
func TestPutApart(t *testing.T) {
	line, _ := editor.Put([]byte("ab"), 'c')
	one, _ := editor.Put(line, 'd')
	two, _ := editor.Put(line, 'e')
	if string(line) != "abc" || string(one) != "abcd" || string(two) != "abce" {
		t.Errorf("%q, %q, %q", line, one, two)
	}
}

// spoil writes into a list, its spare room included.
func spoil(b []byte) {
	b = b[:cap(b)]
	for i := range b {
		b[i] ^= 0x55
	}
}
