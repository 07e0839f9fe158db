package program_test

import (
	"fmt"
	"slices"
	"strings"
	"testing"

	"parlour/api"
	"parlour/program"
)

// every is a program with each kind, and its text.
func every() ([]program.Prog, string) {
	l := []program.Prog{
		{Name: "sh", Ops: []program.Op{
			{Kind: program.Out, Text: "hi \\\n"}, {Kind: program.Err}, {Kind: program.In, A: 1024}, {Kind: program.Fork, A: 1}, {Kind: program.Wait, A: 3}, {Kind: program.Kill, A: 4, B: 28},
			{Kind: program.Group, A: 2}, {Kind: program.Session}, {Kind: program.Front, A: 1}, {Kind: program.Act, A: 22, B: 2}, {Kind: program.Mask, A: 9, B: 1},
			{Kind: program.Sleep, A: 1000}, {Kind: program.Mode, A: 53}, {Kind: program.Copy}, {Kind: program.Exec, A: 2}, {Kind: program.Exit, A: 255},
		}},
		{Name: "0"},
		{Name: "prog", Ops: []program.Op{{Kind: program.Exit}}},
	}
	return l, "prog sh\nout hi\\20\\5c\\0a\nerr \nin 1024\nfork 1\nwait 3\nkill 4 28\ngroup 2\nsession\nfront 1\nact 22 2\nmask 9 1\nsleep 1000\nmode 53 0\ncopy\nexec 2\nexit 255\nprog 0\nprog prog\nexit 0\n"
}

// P19.2, P19.3, P19.5: a text with each kind, there and back.
func TestEveryKind(t *testing.T) {
	l, text := every()
	parses(t, text, l, api.OK)
	if s, e := program.Print(l); s != text || e != api.OK {
		t.Errorf("%q, error %d", s, e)
	}
}

// P19.2, P19.3: each byte of a text, as it is written and in no other way.
func TestTextBytes(t *testing.T) {
	for _, word := range []string{"out", "err"} {
		for c := range 256 {
			text := "<" + string([]byte{byte(c)}) + ">"
			l := one(program.Op{Kind: program.Out, Text: text})
			if word == "err" {
				l[0].Ops[0].Kind = program.Err
			}
			itself, digits := "prog a\n"+word+" "+text+"\n", fmt.Sprintf("prog a\n%s <\\%02x>\n", word, c)
			right, wrong := itself, digits
			if c < 33 || c > 126 || c == '\\' {
				right, wrong = digits, itself
			}
			parses(t, right, l, api.OK)
			if s, e := program.Print(l); s != right || e != api.OK {
				t.Errorf("byte %d: %q, error %d", c, s, e)
			}
			refuses(t, wrong, api.ErrForm)
			if upper := fmt.Sprintf("prog a\n%s <\\%02X>\n", word, c); upper != digits {
				refuses(t, upper, api.ErrForm)
			}
		}
	}
}

// P19.2: what stands behind a \ that isn't two digits.
func TestTextDigits(t *testing.T) {
	for _, s := range []string{"\\", "\\0", "\\\\", "\\\\0a", "a\\", "a\\1", "\\0g", "\\g0", "\\x0a", "\\n", "\\ 0a", "\\0 a", "\\+1", "\\-1", "\\0A", "\\0\\0a", "\\0a\\", "\\0a\\0", "\\61", "\\21", "\\7e", "\\41", "\\30", "\\_1", "\\1_"} {
		refuses(t, "prog a\nout "+s+"\n", api.ErrForm)
		refuses(t, "prog a\nerr "+s+"\n", api.ErrForm)
		refuses(t, "prog a\nout x"+s+"\ncopy\n", api.ErrForm)
	}
	parses(t, "prog a\nout \\0a0a\\5c5c\\7f\\80\\ff\\00\\1f\\20!~\n", one(program.Op{Kind: program.Out, Text: "\n0a\\5c\x7f\x80\xff\x00\x1f !~"}), api.OK)
}

// P19.2: an empty text is a blank, and each word has what stands behind it, and no more.
func TestTails(t *testing.T) {
	for _, k := range kinds {
		behind := []string{"", " 1 1", " 1 1 1", "  1", " 1  1", "\t1", " ", "  ", " 1 ", " 1 1 ", " a", " 1 a", " a 1", " 1\t1", ",1", "1"}
		for _, s := range behind {
			text := "prog a\n" + k.word + s + "\nprog b\n"
			want, e := parseOf(text)
			parses(t, text, want, e)
		}
	}
	for _, s := range []string{"out", "err", "exit", "in", "kill 1", "session ", "session 1", "session x", "copy ", "copy 0", "exit ", "exit 1 2", "exit  1", "exit 1 ", "kill 1 2 3", "kill 1  2", "out a b", "out  ", "out  a", "out a ", "out\ta", "kill", "kill ", "mode 53", "act 1", "mask 1 ", "fork", "fork x"} {
		refuses(t, "prog a\n"+s+"\nprog b\n", api.ErrForm)
	}
	parses(t, "prog a\nout \nerr \n", one(program.Op{Kind: program.Out}, program.Op{Kind: program.Err}), api.OK)
}

// P19.2: how numbers are written, in each place.
func TestNumbers(t *testing.T) {
	wrong := []string{"", "00", "01", "007", "0255", "+1", "-1", "-0", "+0", "1.", "1.0", "1e2", "0x1", "0b1", "1_0", "a", "1a", "a1", "\u0661", "1000000", "1000001", "4294967297", "18446744073709551617", "9223372036854775808", strings.Repeat("9", 1000), strings.Repeat("0", 7) + "1", "1,2", "1;", "#1"}
	for _, n := range wrong {
		refuses(t, "prog a\nexit "+n+"\n", api.ErrForm)
		refuses(t, "prog a\nsleep "+n+"\n", api.ErrForm)
		refuses(t, "prog a\nmask "+n+" 1\n", api.ErrForm)
		refuses(t, "prog a\nmask 1 "+n+"\n", api.ErrForm)
		refuses(t, "prog a\nfork "+n+"\nprog b\n", api.ErrForm)
	}
	for n := range 1100 {
		want, e := one(program.Op{Kind: program.Sleep, A: n}), api.OK
		if n > 1000 {
			want, e = nil, api.ErrArg
		}
		parses(t, fmt.Sprintf("prog a\nsleep %d\n", n), want, e)
	}
	for _, n := range []int{1001, 9999, 10000, 99999, 100000, 999998, 999999} {
		refuses(t, fmt.Sprintf("prog a\nsleep %d\n", n), api.ErrArg)
		refuses(t, fmt.Sprintf("prog a\nmask %d 0\n", n), api.ErrArg)
		refuses(t, fmt.Sprintf("prog a\nmask 1 %d\n", n), api.ErrArg)
	}
}

// P19.2: words that there aren't, and lines that may not stand where they do.
func TestLines(t *testing.T) {
	for _, s := range []string{
		"exit 1\n", "copy\n", "\n", "\nprog a\n", "copy\nprog a\n", " prog a\n", "prog a\n\n", "prog a\n\ncopy\n", "prog a\n copy\n", "prog a\njump 1\n", "prog a\nCopy\n", "prog a\nCOPY\n",
		"prog a\ncop\n", "prog a\ncopyy\n", "prog a\n16\n", "prog a\n#\n", "prog a\ncopy\r\n", "prog a\r\n", "prog a\ncopy\x00\n", "prog\n", "prog\na\n", "progs a\n", "pro a\n", "Prog a\n", "prog\ta\n",
		"prog a b\n", "prog a \n", "prog  a\n", "prog a\x7f\n", "prog \xc3\xa9\n", "prog a\x00\n", "prog a\x1f\n", "a\n", " \n", "prog a\n \n", "prog a\n 1\n", "\x00", "prog a\ncopy copy\n", "prog a\nprog b c\n",
	} {
		refuses(t, s, api.ErrForm)
	}
	for _, s := range []string{"p", "prog", "prog ", "prog a", "prog a\ncopy", "prog a\nout ", "prog a\nout a", "prog a\ncopy\nprog b", "prog a\n "} {
		refuses(t, s, api.ErrForm)
	}
	refuses(t, "", api.ErrRange)
}

// P19.2: a text that is cut anywhere but behind a line isn't one.
func TestCut(t *testing.T) {
	_, text := every()
	for n := 1; n < len(text); n++ {
		want, e := parseOf(text[:n])
		parses(t, text[:n], want, e)
		if text[n-1] != '\n' {
			refuses(t, text[:n], api.ErrForm)
		}
	}
}

// P19.2: names of other bytes that can be seen are told by Check, so behind what is wrong ahead of them; others aren't such a text.
func TestNames(t *testing.T) {
	for _, name := range []string{"A", "a-b", "!", "~", "\\", "\\61", strings.Repeat("x", 65), strings.Repeat("x", 1000), ""} {
		refuses(t, "prog "+name+"\n", api.ErrForm)
		refuses(t, "prog a\nexit 256\nprog "+name+"\n", api.ErrArg)
		refuses(t, "prog a\n"+strings.Repeat("copy\n", 65)+"prog "+name+"\n", api.ErrFull)
		refuses(t, "prog "+name+"\nexit 256\n", api.ErrForm)
	}
	for _, name := range []string{"a b", " ", "a ", "\x7f", "\x80", "\xff", "\t", "\x00", "a\r"} {
		refuses(t, "prog a\nexit 256\nprog "+name+"\n", api.ErrForm)
		refuses(t, "prog a\n"+strings.Repeat("copy\n", 65)+"prog "+name+"\n", api.ErrForm)
	}
	for c := range 256 {
		text := "prog a\nexit 256\nprog x" + string([]byte{byte(c)}) + "\n"
		want := api.ErrForm
		if c >= 33 && c <= 126 {
			want = api.ErrArg
		}
		if c != '\n' {
			refuses(t, text, want)
		}
	}
}

// P19.2: of several errors: that there is too much, then that it is no such text, then what Check tells.
func TestParseOrder(t *testing.T) {
	var many strings.Builder
	for i := range 33 {
		fmt.Fprintf(&many, "prog p%d\n", i)
	}
	for _, x := range []struct {
		text string
		e    api.Errno
	}{
		{many.String(), api.ErrRange},
		{many.String() + "exit 256\n", api.ErrRange},
		{many.String() + "prog A\n", api.ErrRange},
		{many.String() + "exit 1 2\n", api.ErrForm},
		{strings.TrimSuffix(many.String(), "prog p32\n"), api.OK},
		{"prog a\nexit 256\njump\n", api.ErrForm},
		{"prog a\nexit 256\ncopy", api.ErrForm},
		{"prog a\n" + strings.Repeat("copy\n", 64), api.OK},
		{"prog a\n" + strings.Repeat("copy\n", 65), api.ErrFull},
		{"prog a\n" + strings.Repeat("copy\n", 65) + "copy 1\n", api.ErrForm},
		{"prog a\n" + strings.Repeat("copy\n", 50000), api.ErrFull},
		{"prog a\nout " + strings.Repeat("a", 1024) + "\n", api.OK},
		{"prog a\nout " + strings.Repeat("a", 1025) + "\n", api.ErrArg},
		{"prog a\nout " + strings.Repeat("\\00", 1024) + "\n", api.OK},
		{"prog a\nerr " + strings.Repeat("\\00", 1025) + "\n", api.ErrArg},
		{"prog a\nprog a\n", api.ErrForm},
		{"prog a\nprog a\nexit 256\n", api.ErrArg},
		{"prog a\nfork 1\nprog b\n", api.OK},
		{"prog a\nfork 1\n", api.ErrArg},
		{"prog a\nprog b\nfork 1\n", api.ErrArg},
		{"prog a\nprog b\nexec 0\n", api.ErrArg},
		{strings.Repeat("\n", 262144), api.ErrForm},
		{strings.Repeat("\n", 262145), api.ErrFull},
		{strings.Repeat("prog a\n", 37449), api.ErrRange},
		{strings.Repeat("prog a\n", 37450), api.ErrFull},
		{"prog a\nkill" + strings.Repeat(" 1", 100000) + "\n", api.ErrForm},
		{"prog a\nsleep " + strings.Repeat("1", 200000) + "\n", api.ErrForm},
		{"prog " + strings.Repeat("a", 262138) + "\n", api.ErrForm},
		{"prog " + strings.Repeat("a", 262139) + "\n", api.ErrFull},
	} {
		if l, e := program.Parse(x.text); e != x.e || e != api.OK && l != nil {
			t.Errorf("Parse of %.60q (%d bytes): %.60v, error %d, not %d", x.text, len(x.text), l, e, x.e)
		}
	}
}

// longest is right programs whose text has so many bytes, some 262144 of them: a program of long texts, and one that is as long as is left.
func longest(size int) []program.Prog {
	l := []program.Prog{{Name: "a", Ops: slices.Repeat([]program.Op{{Kind: program.Out, Text: strings.Repeat("\x00", 1024)}}, 64)}, {Name: "b"}}
	left := size - len(printOf(l))
	for i := range 64 {
		line := (left + i) / 64 // all of them are what is left
		l[1].Ops = append(l[1].Ops, program.Op{Kind: program.Err, Text: strings.Repeat("x", line-len("err \n"))})
	}
	return l
}

// P19.2, P19.3: the longest text that is parsed, and one that is a byte longer.
func TestLongest(t *testing.T) {
	for _, size := range []int{262143, 262144} {
		l := longest(size)
		text, e := program.Print(l)
		if e != api.OK || len(text) != size {
			t.Fatalf("%d bytes, error %d", len(text), e)
		}
		parses(t, text, l, api.OK)
	}
	l := longest(262145)
	text, e := program.Print(l)
	if e != api.OK || text != printOf(l) || len(text) != 262145 {
		t.Fatalf("%d bytes, error %d", len(text), e)
	}
	refuses(t, text, api.ErrFull)
}

// P19.3: as many programs as there may be, with as much as there may be in them.
func TestPrintMost(t *testing.T) {
	l := named(32)
	for i := range l {
		l[i].Name = fmt.Sprintf("%064d", i)
		l[i].Ops = slices.Repeat([]program.Op{{Kind: program.Err, Text: strings.Repeat("\\", 1024)}}, 64)
	}
	if text, e := program.Print(l); text != printOf(l) || e != api.OK {
		t.Errorf("%d bytes, error %d", len(text), e)
	}
}

// P19.3, P19.5: any right programs are printed as the document says, parsed, and printed again the same.
func TestThereAndBack(t *testing.T) {
	m := newMaker(193)
	for range 1000 {
		l := m.progs(32, 64)
		text, e := program.Print(l)
		if e != api.OK || text != printOf(l) {
			t.Fatalf("Print of %v: %q, error %d", l, text, e)
		}
		back, e := program.Parse(text)
		if e != api.OK || !same(back, l) {
			t.Fatalf("Parse of %q: %v, error %d", text, back, e)
		}
		if again, e := program.Print(back); e != api.OK || again != text {
			t.Fatalf("%q was printed again as %q, error %d", text, again, e)
		}
	}
}

// P19.5: right operations, each alone, at every edge of their numbers, are printed and parsed.
func TestEachBack(t *testing.T) {
	for _, k := range kinds {
		for _, a := range probes() {
			for _, b := range probes() {
				o := program.Op{Kind: k.kind, A: a, B: b}
				l := append(one(o), named(31)...)
				if !rightOf(o, 0, 32) {
					continue
				}
				text, e := program.Print(l)
				if e != api.OK || text != printOf(l) {
					t.Fatalf("Print of %v: %q, error %d", o, text, e)
				}
				parses(t, text, l, api.OK)
			}
		}
	}
}

// changed is a text with a few bytes other, gone, or more.
func (m maker) changed(text string) string {
	const bytes = " \n\\0019azAx-+~\x7f\x00\xff"
	b := []byte(text)
	for range 1 + m.Intn(2) {
		i := m.Intn(len(b) + 1)
		c := bytes[m.Intn(len(bytes))]
		switch {
		case i == len(b) || m.Intn(3) == 0:
			b = slices.Insert(b, i, c)
		case m.Intn(2) == 0:
			b[i] = c
		default:
			b = slices.Delete(b, i, i+1)
		}
	}
	return string(b)
}

// P19.2: texts that are nearly right, held against the document's words.
func TestParseAny(t *testing.T) {
	m := newMaker(192)
	found := map[api.Errno]int{}
	for range 30000 {
		text := m.changed(printOf(m.progs(3, 4)))
		want, e := parseOf(text)
		found[e]++
		parses(t, text, want, e)
		if e != api.OK {
			continue
		}
		if again, e := program.Print(want); e != api.OK || again != text {
			t.Fatalf("%q was parsed, and is printed as %q, error %d", text, again, e)
		}
	}
	for _, e := range []api.Errno{api.OK, api.ErrForm, api.ErrArg} {
		if found[e] < 200 {
			t.Errorf("error %d: %d times alone", e, found[e])
		}
	}
}

// P19.2: bytes that are nothing at all.
func TestParseNothing(t *testing.T) {
	m := newMaker(2)
	for range 5000 {
		text := m.bytes(60)
		want, e := parseOf(text)
		parses(t, text, want, e)
	}
}

// The rules on memory: what is parsed shares none, in its lists' spare room neither.
func TestParsedMemory(t *testing.T) {
	_, text := every()
	want, _ := program.Parse(text)
	got, _ := program.Parse(text)
	for i := range got {
		ops := got[i].Ops[:cap(got[i].Ops)]
		for j := range ops {
			ops[j] = program.Op{Kind: 99, Text: "spoilt"}
		}
		for j := i + 1; j < len(got); j++ {
			if !slices.Equal(got[j].Ops, want[j].Ops) {
				t.Fatalf("the lists of %d and %d share memory", i, j)
			}
		}
	}
	spare := got[len(got):cap(got)]
	for i := range spare {
		if spare[i].Name != "" || spare[i].Ops != nil {
			t.Errorf("spare room has %v", spare[i])
		}
	}
	again, e := program.Parse(text)
	if e != api.OK || !same(again, want) {
		t.Errorf("%v, error %d", again, e)
	}
}
