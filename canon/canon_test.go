package canon_test

import (
	"bytes"
	"math"
	"math/rand"
	"slices"
	"strings"
	"testing"

	"parlour/api"
	"parlour/canon"
)

// most is how many bytes may wait, as the document says it.
const most = 1024

// line is a line that was ended by a byte; ended is one that was ended without one.
func line(text string) canon.Line  { return canon.Line{Text: []byte(text)} }
func ended(text string) canon.Line { return canon.Line{Text: []byte(text), Eof: true} }

// of is a line of so many bytes.
func of(n int) canon.Line { return line(strings.Repeat("x", n)) }

// lines is a list of lines.
func lines(l ...canon.Line) []canon.Line { return l }

// sameLine says whether two lines are one.
func sameLine(a, b canon.Line) bool { return bytes.Equal(a.Text, b.Text) && a.Eof == b.Eof }

// same says whether two lists of lines are one.
func same(a, b []canon.Line) bool { return slices.EqualFunc(a, b, sameLine) }

// own is the same lines in memory of their own.
func own(l []canon.Line) []canon.Line {
	var same []canon.Line
	for _, x := range l {
		same = append(same, canon.Line{Text: bytes.Clone(x.Text), Eof: x.Eof})
	}
	return same
}

// told is lines for a test to tell of, an Eof as a ! behind the bytes.
func told(l ...canon.Line) []string {
	var texts []string
	for _, x := range l {
		text := string(x.Text)
		if x.Eof {
			text += "!"
		}
		texts = append(texts, text)
	}
	return texts
}

// usedOf is Used as the document says it.
func usedOf(l []canon.Line) int {
	eofs := 0
	for _, x := range l {
		if x.Eof {
			eofs++
		}
	}
	return len(flatOf(l)) + eofs
}

// flatOf is Flat as the document says it.
func flatOf(l []canon.Line) string {
	var text strings.Builder
	for _, x := range l {
		text.Write(x.Text)
	}
	return text.String()
}

// readOf is Read as the document says it.
func readOf(l []canon.Line, n int) (string, []canon.Line, bool) {
	if len(l) == 0 || n <= 0 {
		return "", l, len(l) > 0
	}
	first := string(l[0].Text)
	if n >= len(first) {
		return first, l[1:], true
	}
	return first[:n], append(lines(canon.Line{Text: []byte(first[n:]), Eof: l[0].Eof}), l[1:]...), true
}

// has checks what Used and Flat answer of lines.
func has(t *testing.T, l []canon.Line, used int, flat string) {
	t.Helper()
	if got := canon.Used(l); got != used {
		t.Errorf("Used of %d lines: %d, not %d", len(l), got, used)
	}
	if got := canon.Flat(l); string(got) != flat {
		t.Errorf("Flat of %d lines: %q, not %q", len(l), got, flat)
	}
}

// puts checks what Put answers.
func puts(t *testing.T, l []canon.Line, x canon.Line, room bool) {
	t.Helper()
	want := l
	if room {
		want = slices.Concat(l, lines(x))
	}
	if got, ok := canon.Put(l, x); !same(got, want) || ok != room {
		t.Errorf("Put of %d bytes, %t, behind %d lines of %d: %d lines of %d, %t, not %t", len(x.Text), x.Eof, len(l), usedOf(l), len(got), usedOf(got), ok, room)
	}
}

// reads checks what Read answers.
func reads(t *testing.T, l []canon.Line, n int, text string, left []canon.Line, there bool) {
	t.Helper()
	if b, rest, ok := canon.Read(l, n); string(b) != text || !same(rest, left) || ok != there {
		t.Errorf("Read of %d of %q: %q, %q, %t, not %q, %q, %t", n, told(l...), b, told(rest...), ok, text, told(left...), there)
	}
}

// anyLine is a line: one as it is typed, or any one, without bytes too.
func anyLine(random *rand.Rand, longest int) canon.Line {
	text := make([]byte, random.Intn(longest+1))
	for i := range text {
		text[i] = byte(random.Intn(256))
	}
	switch random.Intn(5) {
	case 0:
		return canon.Line{Eof: true}
	case 1:
		return canon.Line{Text: text}
	case 2:
		return canon.Line{Text: text, Eof: true}
	}
	return canon.Line{Text: append(text, '\n')}
}

// anyLines is lines of any kind.
func anyLines(random *rand.Rand, count, longest int) []canon.Line {
	l := make([]canon.Line, random.Intn(count+1))
	for i := range l {
		l[i] = anyLine(random, longest)
	}
	return l
}

// The limit is the document's.
func TestLimit(t *testing.T) {
	if api.MaxInput != most {
		t.Error("another limit")
	}
}

// The document's example.
func TestExample(t *testing.T) {
	l := lines(line("ab\n"), ended(""))
	reads(t, l, 2, "ab", lines(line("\n"), ended("")), true)
	reads(t, lines(line("\n"), ended("")), 9, "\n", lines(ended("")), true)
	reads(t, lines(ended("")), 9, "", nil, true)
	reads(t, nil, 9, "", nil, false)
}

// P13.1 and P13.3: how many bytes the lines have, and which, one behind the other.
func TestUsedAndFlat(t *testing.T) {
	has(t, nil, 0, "")
	has(t, lines(), 0, "")
	has(t, lines(line("")), 0, "")
	has(t, lines(line(""), line("")), 0, "")
	has(t, lines(ended("")), 1, "")
	has(t, lines(ended(""), ended("")), 2, "")
	has(t, lines(line("\n")), 1, "\n")
	has(t, lines(line("ab\n")), 3, "ab\n")
	has(t, lines(ended("ab")), 3, "ab")
	has(t, lines(line("ab\n"), ended(""), ended("cd"), line("e\n")), 9, "ab\ncde\n")
	has(t, lines(line("ab\n"), line(""), line("cd")), 5, "ab\ncd")
	has(t, lines(ended("\n\n"), line("\x00\xff\x04")), 6, "\n\n\x00\xff\x04")
	has(t, lines(of(most)), most, strings.Repeat("x", most))
	has(t, lines(of(most), of(5), ended("")), most+6, strings.Repeat("x", most+5))
}

// P13.1 and P13.3: of any lines.
func TestUsedAndFlatOfAny(t *testing.T) {
	random := rand.New(rand.NewSource(131))
	for range 3000 {
		l := anyLines(random, 12, 300)
		has(t, l, usedOf(l), flatOf(l))
	}
}

// P13.1: a line stands behind the others if there is room: an Eof takes as much as a byte.
func TestPutEdges(t *testing.T) {
	for _, x := range []struct {
		l    []canon.Line
		x    canon.Line
		room bool
	}{
		{nil, line("a\n"), true}, {nil, line(""), true}, {nil, ended(""), true}, {lines(), ended("ab"), true}, {lines(line("a\n")), line("b\n"), true},
		{nil, of(most - 1), true}, {nil, of(most), true}, {nil, of(most + 1), false}, {nil, of(2 * most), false}, {nil, of(1 << 16), false},
		{nil, ended(strings.Repeat("x", most-1)), true}, {nil, ended(strings.Repeat("x", most)), false},
		{lines(of(1000)), of(23), true}, {lines(of(1000)), of(24), true}, {lines(of(1000)), of(25), false},
		{lines(of(1000)), ended(strings.Repeat("y", 23)), true}, {lines(of(1000)), ended(strings.Repeat("y", 24)), false},
		{lines(ended(strings.Repeat("y", 999))), of(24), true}, {lines(ended(strings.Repeat("y", 1000))), of(24), false},
		{lines(of(most - 1)), line("\n"), true}, {lines(of(most - 1)), ended(""), true}, {lines(of(most - 1)), ended("a"), false}, {lines(of(most - 1)), line("a\n"), false},
		{lines(of(most)), line(""), true}, {lines(of(most)), ended(""), false}, {lines(of(most)), line("\n"), false},
		{lines(of(most + 1)), line(""), false}, {lines(of(most + 1)), ended(""), false}, {lines(of(600), of(600)), line("a\n"), false}, {lines(of(600), of(600)), line(""), false},
		{lines(of(500), ended(""), of(500)), of(23), true}, {lines(of(500), ended(""), of(500)), of(24), false},
		{slices.Repeat(lines(ended("")), most-1), ended(""), true}, {slices.Repeat(lines(ended("")), most), ended(""), false}, {slices.Repeat(lines(ended("")), most), line(""), true}, {slices.Repeat(lines(line("\n")), most), line("\n"), false},
	} {
		puts(t, x.l, x.x, x.room)
	}
}

// P13.1: behind lines of any length, a line of any length.
func TestPutEachLength(t *testing.T) {
	for used := 0; used <= most+8; used += 4 {
		for n := 0; n <= most+8; n += 7 {
			puts(t, lines(of(used)), of(n), used+n <= most)
			puts(t, lines(of(used)), canon.Line{Text: of(n).Text, Eof: true}, used+n+1 <= most)
		}
	}
}

// P13.1: lines put one behind the other, until there is no room and beyond, are those that fitted, in order.
func TestPutMany(t *testing.T) {
	random := rand.New(rand.NewSource(132))
	for range 100 {
		var l, want []canon.Line
		for range 60 {
			x := anyLine(random, 80)
			longer := append(own(want), x)
			fits := usedOf(longer) <= most
			got, ok := canon.Put(l, x)
			if fits {
				want = longer
			}
			if ok != fits || !same(got, want) {
				t.Fatalf("Put of %q behind %d: %d, %t", told(x), usedOf(l), usedOf(got), ok)
			}
			l = got
		}
		if canon.Used(l) > most {
			t.Fatalf("%d bytes wait", canon.Used(l))
		}
	}
}

// P13.2: where there are no lines there is nothing to read, whatever is asked.
func TestReadNothing(t *testing.T) {
	for _, n := range []int{math.MinInt, -1, 0, 1, 9, math.MaxInt} {
		for _, l := range [][]canon.Line{nil, {}} {
			reads(t, l, n, "", nil, false)
		}
	}
}

// P13.2: of no bytes, or less, nothing is read, and all lines stay, those without bytes, too.
func TestReadNone(t *testing.T) {
	for _, n := range []int{math.MinInt, math.MinInt + 1, -255, -1, 0} {
		for _, l := range [][]canon.Line{{line("ab\n")}, {ended("")}, {line("")}, {ended(""), line("ab\n")}, {line("ab\n"), ended("cd"), ended("")}, {of(2000)}} {
			reads(t, l, n, "", l, true)
		}
	}
}

// P13.2: some bytes of the first line, or all of it, and none of another one.
func TestReadEdges(t *testing.T) {
	rest := lines(line("cd\n"), ended("ef"), ended(""))
	for _, x := range []struct {
		first canon.Line
		n     int
		text  string
		left  []canon.Line
	}{
		{line("ab\n"), 1, "a", lines(line("b\n"))}, {line("ab\n"), 2, "ab", lines(line("\n"))}, {line("ab\n"), 3, "ab\n", nil}, {line("ab\n"), 4, "ab\n", nil}, {line("ab\n"), 9, "ab\n", nil}, {line("ab\n"), math.MaxInt, "ab\n", nil},
		{line("\n"), 1, "\n", nil}, {line("\n"), 2, "\n", nil}, {line("a"), 1, "a", nil}, {line("a\x04"), 1, "a", lines(line("\x04"))}, {line("a\nb\n"), 9, "a\nb\n", nil}, {line("a\nb\n"), 2, "a\n", lines(line("b\n"))},
		{ended("ab"), 1, "a", lines(ended("b"))}, {ended("ab"), 2, "ab", nil}, {ended("ab"), 3, "ab", nil}, {ended("ab"), math.MaxInt, "ab", nil}, {ended("ab\n"), 2, "ab", lines(ended("\n"))},
		{ended(""), 1, "", nil}, {ended(""), 9, "", nil}, {ended(""), math.MaxInt, "", nil}, {line(""), 1, "", nil}, {line(""), math.MaxInt, "", nil},
		{line("\x00\xff\x80"), 2, "\x00\xff", lines(line("\x80"))}, {of(2000), 1999, strings.Repeat("x", 1999), lines(of(1))}, {of(2000), 2000, strings.Repeat("x", 2000), nil}, {of(2000), most, strings.Repeat("x", most), lines(of(2000 - most))},
	} {
		reads(t, lines(x.first), x.n, x.text, x.left, true)
		reads(t, slices.Concat(lines(x.first), rest), x.n, x.text, slices.Concat(x.left, rest), true)
	}
}

// P13.2: of any lines, any number of bytes.
func TestReadAny(t *testing.T) {
	random := rand.New(rand.NewSource(133))
	for range 2000 {
		l := anyLines(random, 6, 20)
		for n := -2; n < 24; n++ {
			text, left, ok := readOf(l, n)
			reads(t, l, n, text, left, ok)
		}
	}
}

// typed is lines that a byte ended, or nothing did: no line is without bytes and without Eof.
func typed(random *rand.Rand, count, longest int) []canon.Line {
	return slices.DeleteFunc(anyLines(random, count, longest), func(x canon.Line) bool { return len(x.Text) == 0 && !x.Eof })
}

// P13.4: reads, one behind the other, have all bytes, in order, never those of two lines, and none just where an Eof stood behind no byte.
func TestReadAll(t *testing.T) {
	random := rand.New(rand.NewSource(134))
	for range 3000 {
		before := typed(random, 10, 30)
		left := before
		for i, x := range before {
			var text []byte
			for len(text) < len(x.Text) || len(text) == 0 {
				n := 1 + random.Intn(40)
				b, rest, ok := canon.Read(left, n)
				if !ok || len(b) > n || !bytes.HasPrefix(x.Text[len(text):], b) || len(b) == 0 != (len(x.Text) == 0) {
					t.Fatalf("line %d of %q: Read of %d: %q, %t, behind %q", i, told(before...), n, b, ok, text)
				}
				text, left = append(text, b...), rest
				if len(b) == 0 {
					break
				}
			}
			if !same(left, before[i+1:]) {
				t.Fatalf("behind line %d of %q: %q", i, told(before...), told(left...))
			}
		}
		reads(t, left, 9, "", nil, false)
	}
}

// P13.4: a line that is read in parts is read as the line, and its Eof is no read of its own.
func TestReadInParts(t *testing.T) {
	next := line("z\n")
	for _, x := range []canon.Line{line("abcdefg\n"), ended("abcdefg\n"), ended("abcdefgh")} {
		for n := 1; n < 8; n++ {
			a, l, _ := canon.Read(lines(x, next), n)
			b, l, _ := canon.Read(l, 9)
			if string(a)+string(b) != string(x.Text) || len(a) != n || !same(l, lines(next)) {
				t.Errorf("%q, %d of it first: %q, %q, %q", told(x), n, a, b, told(l...))
			}
		}
		l := lines(x, next)
		for i := range x.Text {
			var b []byte
			b, l, _ = canon.Read(l, 1)
			if string(b) != string(x.Text[i:i+1]) {
				t.Errorf("%q, byte by byte: %q at %d", told(x), b, i)
			}
		}
		if !same(l, lines(next)) {
			t.Errorf("%q, byte by byte, leaves %q", told(x), told(l...))
		}
	}
}

// P13.4: what was put and what was read, in any turns, are the same bytes in order.
func TestPutAndRead(t *testing.T) {
	random := rand.New(rand.NewSource(135))
	for range 200 {
		var l []canon.Line
		var put, read []byte
		for range 200 {
			if random.Intn(2) == 0 {
				x := anyLine(random, 200)
				longer, ok := canon.Put(l, x)
				if ok {
					put = append(put, x.Text...)
				}
				l = longer
			} else {
				b, rest, _ := canon.Read(l, random.Intn(250))
				read, l = append(read, b...), rest
			}
			if canon.Used(l) > most || string(read)+string(canon.Flat(l)) != string(put) {
				t.Fatalf("put %q, read %q, and there are %q", put, read, told(l...))
			}
		}
	}
}

// Many lines, and lines of many bytes, are as few and short ones.
func TestMany(t *testing.T) {
	const many = 1 << 18
	l := slices.Repeat(lines(line("a\n"), ended("")), many)
	has(t, l, 3*many, strings.Repeat("a\n", many))
	puts(t, l, ended(""), false)
	reads(t, l, 1, "a", slices.Concat(lines(line("\n")), l[1:]), true)
	reads(t, l, 9, "a\n", l[1:], true)
	long := strings.Repeat("ab\n", many)
	has(t, lines(line(long), ended(long)), 6*many+1, long+long)
	puts(t, lines(line(long)), line(""), false)
	reads(t, lines(ended(long)), many, long[:many], lines(ended(long[many:])), true)
}

// texts is all bytes of lines, each line's as it lies in memory.
func texts(l []canon.Line) [][]byte {
	var all [][]byte
	for _, x := range l {
		all = append(all, x.Text)
	}
	return all
}

// spoil writes into a list, its spare room included.
func spoil(b []byte) {
	b = b[:cap(b)]
	for i := range b {
		b[i] ^= 0x55
	}
}

// spoilLines writes into lines and into the list that they stand in, its spare room included.
func spoilLines(l []canon.Line) {
	for _, text := range texts(l) {
		spoil(text)
	}
	l = l[:cap(l)]
	for i := range l {
		l[i] = ended("spoilt")
	}
}

// roomy is the same lines with spare room behind each and behind all, and all bytes of that room.
func roomy(l []canon.Line) ([]canon.Line, func() string) {
	list := make([]canon.Line, len(l), len(l)+3)
	var memory [][]byte
	for i, x := range l {
		m := slices.Concat(x.Text, []byte("room"))
		memory = append(memory, m)
		list[i] = canon.Line{Text: m[:len(x.Text)], Eof: x.Eof}
	}
	for i := len(l); i < cap(list); i++ {
		list[:cap(list)][i] = ended("spare")
	}
	return list, func() string {
		all := string(bytes.Join(memory, nil))
		for _, x := range list[:cap(list)] {
			all += string(x.Text) + map[bool]string{false: ".", true: "!"}[x.Eof]
		}
		return all
	}
}

// answer is what each call answers of lines, as one: the lists of lines, and the bytes.
func answer(l []canon.Line, x canon.Line, n int) ([][]canon.Line, [][]byte) {
	put, _ := canon.Put(l, x)
	b, rest, _ := canon.Read(l, n)
	none, all, _ := canon.Read(l, 0)
	return [][]canon.Line{put, rest, all}, [][]byte{b, none, canon.Flat(l)}
}

// What is handed in is neither changed nor shared, its spare room included; and no two lists that are answered share any.
func TestMemory(t *testing.T) {
	random := rand.New(rand.NewSource(136))
	for range 2000 {
		l, x, n := anyLines(random, 6, 20), anyLine(random, 20), random.Intn(24)
		if random.Intn(3) == 0 {
			x = of(2000)
		}
		list, memory := roomy(append(own(l), ended("between"), x))
		given, behind := list[:len(l):len(l)], list[len(l)+1]
		if random.Intn(2) == 0 {
			given = list[:len(l)]
		}
		before := memory()
		wantLines, wantBytes := answer(own(l), own(lines(x))[0], n)
		gotLines, gotBytes := answer(given, behind, n)
		if memory() != before {
			t.Fatalf("of %q what was handed in is changed", told(l...))
		}
		for i := range gotBytes {
			spoil(gotBytes[i])
			if !slices.EqualFunc(gotBytes[i+1:], wantBytes[i+1:], bytes.Equal) || !slices.EqualFunc(gotLines, wantLines, same) {
				t.Fatalf("of %q answers share memory", told(l...))
			}
		}
		for i := range gotLines {
			for k := range gotLines[i] {
				spoil(gotLines[i][k].Text)
				if !same(gotLines[i][k+1:], wantLines[i][k+1:]) {
					t.Fatalf("of %q two lines of an answer share memory", told(l...))
				}
			}
			spoilLines(gotLines[i])
			if !slices.EqualFunc(gotLines[i+1:], wantLines[i+1:], same) {
				t.Fatalf("of %q answers share memory", told(l...))
			}
		}
		if memory() != before {
			t.Fatalf("of %q what was handed in is shared", told(l...))
		}
		gotLines, gotBytes = answer(given, behind, n)
		spoilLines(list)
		if !slices.EqualFunc(gotBytes, wantBytes, bytes.Equal) || !slices.EqualFunc(gotLines, wantLines, same) {
			t.Fatalf("of %q an answer hangs on what was handed in", told(l...))
		}
	}
}

// Lines that share memory when they are handed in don't when they are handed out.
func TestSharedLines(t *testing.T) {
	text := []byte("abab\n")
	l := lines(canon.Line{Text: text}, canon.Line{Text: text[:2], Eof: true}, canon.Line{Text: text[2:]})
	got, ok := canon.Put(l, canon.Line{Text: text})
	spoil(got[0].Text)
	spoil(text)
	if !ok || !same(got[1:], lines(ended("ab"), line("ab\n"), line("abab\n"))) {
		t.Errorf("%q", told(got...))
	}
}

// Two lines put behind the same lines make two lists.
func TestPutApart(t *testing.T) {
	l, _ := canon.Put(nil, line("a\n"))
	l, _ = canon.Put(l, line("b\n"))
	l, _ = canon.Put(l, line("c\n"))
	one, _ := canon.Put(l, line("d\n"))
	two, _ := canon.Put(l, ended(""))
	if string(canon.Flat(l)) != "a\nb\nc\n" || string(canon.Flat(one)) != "a\nb\nc\nd\n" || !same(two, lines(line("a\n"), line("b\n"), line("c\n"), ended(""))) {
		t.Errorf("%q, %q, %q", told(l...), told(one...), told(two...))
	}
}
