package ldisc_test

import (
	"math"
	"math/rand"
	"slices"
	"strings"
	"testing"

	"parlour/api"
	"parlour/canon"
	"parlour/ldisc"
	"parlour/modes"
)

// with and without are a setting with those flags on, and off.
func with(t api.Termios, ops ...int) api.Termios {
	for _, op := range ops {
		t = modes.Set(t, op, true)
	}
	return t
}

func without(t api.Termios, ops ...int) api.Termios {
	for _, op := range ops {
		t = modes.Set(t, op, false)
	}
	return t
}

// char is a setting with that character.
func char(t api.Termios, op int, c byte) api.Termios {
	t.Chars[op] = c
	return t
}

// usual and rawly are the default, and the default without lines.
func usual() api.Termios { return modes.Default() }
func rawly() api.Termios { return without(usual(), api.ICANON) }

// types types a text: all signals that come of it.
func types(d *ldisc.Disc, s string) []int {
	var l []int
	for _, c := range []byte(s) {
		l = append(l, d.Input(c)...)
	}
	return l
}

// of is so many bytes.
func of(n int) string { return strings.Repeat("x", n) }

// readAll is all lines that wait, one behind the other, each with a bar behind it.
func readAll(d *ldisc.Disc) string {
	var all strings.Builder
	for {
		b, ok := d.Read(math.MaxInt, 0)
		if !ok || d.Used() == 0 && len(b) == 0 && !modes.Has(d.T, api.ICANON) {
			return all.String()
		}
		all.Write(b)
		all.WriteString("|")
	}
}

// lines is lines as they wait, an Eof as a dot, a bar behind each.
func lines(l []canon.Line) string {
	var all strings.Builder
	for _, x := range l {
		all.Write(x.Text)
		if x.Eof {
			all.WriteString(".")
		}
		all.WriteString("|")
	}
	return all.String()
}

// The numbers of the document.
func TestNames(t *testing.T) {
	if ldisc.In != 1 || ldisc.Out != 2 || ldisc.Both != 3 {
		t.Error("what is flushed has another number")
	}
	if api.MaxCanon-1 != longestLine || api.MaxInput != mostInput || api.MaxOutput != mostOutput {
		t.Error("another limit")
	}
}

// The document's examples.
func TestExamples(t *testing.T) {
	d := ldisc.New(usual())
	types(d, "ab\x7fc\n")
	if out := string(d.Output(99)); out != "ab\x08\x20\x08c\x0d\x0a" {
		t.Errorf("%q", out)
	}
	if b, ok := d.Read(9, 0); string(b) != "ac\n" || !ok {
		t.Errorf("%q, %t", b, ok)
	}
	if l := d.Input(3); !slices.Equal(l, []int{api.SIGINT}) || string(d.Output(9)) != "\x5e\x43" {
		t.Error(l)
	}
}

// P16.1: a new discipline is set so, whether that is right or not, and all else is zero.
func TestNew(t *testing.T) {
	random := rand.New(rand.NewSource(161))
	l := []api.Termios{{}, usual(), {Flags: math.MaxUint64, Min: math.MinInt, Time: math.MaxInt}}
	for range 100 {
		l = append(l, anySetting(random), wrongSetting(random))
	}
	for _, s := range l {
		if d := ldisc.New(s); !same(d, &model{T: s}) || d.Used() != 0 {
			t.Errorf("of %v: %+v", s, d)
		}
	}
}

// typing is what is typed, what goes out then, and what waits.
type typing struct {
	t                      api.Termios
	in, out, line, waiting string
}

// typesAll checks each: what is typed to a new discipline, and no signal comes of.
func typesAll(t *testing.T, l []typing) {
	t.Helper()
	for _, x := range l {
		d := ldisc.New(x.t)
		if signals := types(d, x.in); len(signals) != 0 {
			t.Errorf("%q: signals %v", x.in, signals)
		}
		waiting := lines(d.Lines) + string(d.Raw)
		if string(d.Out) != x.out || string(d.Line) != x.line || waiting != x.waiting {
			t.Errorf("flags %x: typed %q: out %q, line %q, waiting %q, not %q, %q, %q", x.t.Flags, x.in, d.Out, d.Line, waiting, x.out, x.line, x.waiting)
		}
	}
}

// P16.1, step 1: behind VLNEXT the next byte is taken as it is, whatever it means; it is stripped, but neither turned nor marked.
func TestNextByte(t *testing.T) {
	u := usual()
	typesAll(t, []typing{
		{u, "\x16\x03", "^\b^C", "\x03", ""}, {u, "\x16\x13a", "^\b^Sa", "\x13a", ""}, {u, "\x16\x11", "^\b^Q", "\x11", ""}, {u, "\x16\x16", "^\b^V", "\x16", ""},
		{u, "a\x16\x7f", "a^\b^?", "a\x7f", ""}, {u, "\x16\x04", "^\b^D", "\x04", ""}, {u, "a\x16\n", "a^\b\r\n", "a\n", ""}, {u, "\x16\r", "^\b^M", "\r", ""},
		{with(u, api.IGNCR), "\x16\r", "^\b^M", "\r", ""}, {with(u, api.INLCR), "\x16\n", "^\b\r\n", "\n", ""},
		{with(u, api.PARMRK), "\x16\xff\xff", "^\b\xff\xff", "\xff\xff\xff", ""},
		{with(u, api.ISTRIP), "\x16\x83", "^\b^C", "\x03", ""}, {with(u, api.IUCLC), "\x16A", "^\ba", "a", ""},
		{without(u, api.ECHOCTL), "\x16\x03", "\x03", "\x03", ""}, {without(u, api.ECHO), "\x16\x03", "", "\x03", ""}, {without(u, api.IEXTEN), "\x16", "^V", "\x16", ""},
		{u, "\x16\x03\x7f", "^\b^C\b \b\b \b", "", ""}, {u, "\x16ab\n", "^\bab\r\n", "", "ab\n|"},
	})
	for _, s := range []api.Termios{u, rawly(), with(rawly(), api.PARMRK)} {
		d := ldisc.New(s)
		d.Next = true
		if l := d.Input(3); len(l) != 0 || d.Next || string(d.Line)+string(d.Raw) != "\x03" {
			t.Errorf("%v: %+v", l, d)
		}
		d.Next = true
		d.Input(255)
		if d.Next || string(d.Line)+string(d.Raw) != "\x03\xff" {
			t.Errorf("%+v", d)
		}
	}
}

// P16.1, step 2: what stops and starts is used up; any other byte may start, and isn't.
func TestStops(t *testing.T) {
	u := usual()
	any := with(u, api.IXANY)
	off := without(u, api.IXON)
	typesAll(t, []typing{
		{u, "a\x13b\x11c", "abc", "abc", ""}, {u, "\x13", "", "", ""}, {u, "\x11\n", "\r\n", "", "\n|"}, {any, "\x13a\x13", "a", "a", ""},
		{off, "\x13\x11", "^S^Q", "\x13\x11", ""}, {without(rawly(), api.ECHO), "a\x13b", "", "", "ab"}, {without(rawly(), api.IXON, api.ECHO), "a\x13b", "", "", "a\x13b"},
		{char(u, api.VEOF, 0x13), "a\x13", "a", "a", ""}, {char(u, api.VINTR, 0x13), "a\x13", "a", "a", ""},
	})
	for _, x := range []struct {
		t       api.Termios
		in      string
		stopped bool
	}{
		{u, "\x13", true}, {u, "\x13a", true}, {u, "\x13\x11", false}, {u, "\x11", false}, {u, "\x13\x13", true}, {any, "\x13a", false}, {any, "\x13\x13", true}, {off, "\x13", false},
		{u, "\x16\x13", false}, {u, "\x13\x16\x11", true}, {u, "\x13\x03", false}, {with(u, api.NOFLSH), "\x13\x03", false}, {u, "\x13\x1c", false}, {u, "\x13\x1a", false}, {without(u, api.ISIG), "\x13\x03", true}, {with(u, api.ISTRIP), "\x93", true}, {u, "\x93", false},
	} {
		d := ldisc.New(x.t)
		types(d, x.in)
		if d.Flow.Stopped != x.stopped {
			t.Errorf("flags %x: typed %q: %+v", x.t.Flags, x.in, d.Flow)
		}
	}
	d := ldisc.New(off)
	d.Flow.Stopped = true
	if d.Input(3); !d.Flow.Stopped {
		t.Error("without IXON a signal starts output")
	}
}

// P16.1, step 3: signals, what they throw away, and how they are echoed.
func TestSignals(t *testing.T) {
	u := usual()
	keeps := with(u, api.NOFLSH)
	all := func(c byte) api.Termios {
		return char(char(char(u, api.VINTR, c), api.VQUIT, c), api.VSUSP, c)
	}
	const out = "ab\r\ncd"
	for _, x := range []struct {
		t       api.Termios
		c       byte
		signals []int
		out     string
		used    int
	}{
		{u, 3, []int{2}, "^C", 0}, {u, 28, []int{3}, "^\\", 0}, {u, 26, []int{20}, out + "^Z", 0},
		{keeps, 3, []int{2}, out + "^C", 5}, {keeps, 28, []int{3}, out + "^\\", 5}, {keeps, 26, []int{20}, out + "^Z", 5},
		{all('s'), 's', []int{2}, "s", 0}, {char(all('s'), api.VINTR, 255), 's', []int{3}, "s", 0}, {char(char(all('s'), api.VINTR, 255), api.VQUIT, 255), 's', []int{20}, out + "s", 0},
		{all(255), 255, nil, out + "\xff", 6}, {all(13), 13, []int{2}, "^M", 0}, {with(all(13), api.IGNCR), 13, []int{2}, "^M", 0}, {all(10), 10, []int{2}, "\r\n", 0}, {all(10), 13, nil, out + "\r\n", 6},
		{all(0x7f), 0x7f, []int{2}, "^?", 0}, {all(0), 0, []int{2}, "^@", 0}, {with(all('s'), api.IUCLC), 'S', []int{2}, "s", 0}, {with(u, api.ISTRIP), 0x83, []int{2}, "^C", 0},
		{without(u, api.ECHOCTL), 3, []int{2}, "\x03", 0}, {without(u, api.ISIG), 3, nil, out + "^C", 6}, {without(u, api.ISIG), 26, nil, out + "^Z", 6}, {without(u, api.IEXTEN), 26, []int{20}, out + "^Z", 0},
	} {
		d := ldisc.New(u)
		types(d, "ab\ncd")
		d.T = x.t
		if l := d.Input(x.c); !slices.Equal(l, x.signals) || string(d.Out) != x.out || d.Used() != x.used {
			t.Errorf("flags %x: typed %x: %v, out %q, %d used, not %v, %q, %d", x.t.Flags, x.c, l, d.Out, d.Used(), x.signals, x.out, x.used)
		}
	}
	for _, s := range []api.Termios{rawly(), with(rawly(), api.NOFLSH)} {
		d := ldisc.New(s)
		if l := types(d, "ab\x03\x1cc\x1ad"); !slices.Equal(l, []int{2, 3, 20}) || string(d.Raw) != map[bool]string{false: "d", true: "abcd"}[modes.Has(s, api.NOFLSH)] {
			t.Errorf("%v, %q", l, d.Raw)
		}
	}
	d := ldisc.New(without(u, api.ECHO))
	d.Write([]byte("out"))
	if l := types(d, "\x1a\x03"); !slices.Equal(l, []int{20, 2}) || len(d.Out) != 0 {
		t.Errorf("%v, %q", l, d.Out)
	}
}

// P16.1, step 4: a byte that is left out is nothing; a turned one means what it is turned to.
func TestTurned(t *testing.T) {
	u := usual()
	typesAll(t, []typing{
		{u, "a\rb\n", "a\r\nb\r\n", "", "a\n|b\n|"}, {with(u, api.IGNCR), "a\rb\n", "ab\r\n", "", "ab\n|"}, {without(u, api.ICRNL), "a\rb", "a^Mb", "a\rb", ""},
		{with(without(u, api.ICRNL), api.INLCR), "a\nb", "a^Mb", "a\rb", ""}, {with(u, api.INLCR), "a\rb\n", "a\r\nb^M", "b\r", "a\n|"},
		{char(u, api.VEOL, 13), "a\r", "a\r\n", "", "a\n|"}, {char(without(u, api.ICRNL), api.VEOL, 13), "a\r", "a^M", "", "a\r|"}, {char(with(u, api.INLCR), api.VERASE, 13), "ab\n", "ab\b \b", "a", ""}, {char(u, api.VERASE, 13), "ab\r", "ab\r\n", "", "ab\n|"},
		{without(rawly(), api.ECHO), "\r\n", "", "", "\n\n"}, {with(without(rawly(), api.ECHO), api.IGNCR), "\r\n", "", "", "\n"},
	})
}

// P16.1, step 5: without ICANON all else is taken as it is read.
func TestWithoutLines(t *testing.T) {
	r := rawly()
	typesAll(t, []typing{
		{r, "a\x7f\x15\x04\x12\x17\x16\x0f\n", "a^?^U^D^R^W^V^O\r\n", "", "a\x7f\x15\x04\x12\x17\x16\x0f\n"}, {with(r, api.PARMRK), "\xffa\xff", "\xffa\xff", "", "\xff\xffa\xff\xff"}, {with(r, api.PARMRK, api.ISTRIP), "\xff", "^?", "", "\x7f"},
		{without(r, api.ECHO), "a\n", "", "", "a\n"}, {with(without(r, api.ECHO), api.ECHONL), "a\n", "", "", "a\n"}, {char(char(r, api.VEOL, ';'), api.VEOL2, ':'), "a;b:", "a;b:", "", "a;b:"},
	})
}

// P16.1, steps 6 to 9: what edits a line.
func TestEdits(t *testing.T) {
	u := usual()
	wipes := without(u, api.ECHOE)
	noKill := without(u, api.ECHOKE)
	typesAll(t, []typing{
		{u, "ab\x16", "ab^\b", "ab", ""}, {without(u, api.ECHOCTL), "ab\x16", "ab", "ab", ""}, {without(u, api.ECHO), "ab\x16", "", "ab", ""}, {without(u, api.IEXTEN), "ab\x16\x16", "ab^V^V", "ab\x16\x16", ""},
		{u, "ab\x7f", "ab\b \b", "a", ""}, {u, "a\x7f\x7f\x7f", "a\b \b", "", ""}, {u, "\x7f", "", "", ""}, {wipes, "ab\x7f", "ab^?", "a", ""}, {wipes, "\x7f\x17", "", "", ""}, {without(u, api.ECHO), "ab\x7f", "", "a", ""}, {without(u, api.IEXTEN), "ab\x7f", "ab\b \b", "a", ""},
		{u, "a\t\x7f", "a\t" + strings.Repeat("\b \b", 7), "a", ""}, {u, "a\x01\x7f", "a^A\b \b\b \b", "a", ""}, {without(u, api.ECHOCTL), "a\x01\x7f", "a\x01", "a", ""}, {u, "caf\xc3\xa9\x7f", "caf\xc3\xa9\b \b", "caf\xc3", ""}, {with(u, api.IUTF8), "caf\xc3\xa9\x7f", "caf\xc3\xa9\b \b", "caf", ""},
		{u, "ab cd \x17", "ab cd " + strings.Repeat("\b \b", 3), "ab ", ""}, {u, "\x17", "", "", ""}, {wipes, "ab cd\x17", "ab cd^W", "ab ", ""}, {without(u, api.IEXTEN), "ab\x17", "ab^W", "ab\x17", ""}, {without(u, api.ECHO), "ab cd\x17", "", "ab ", ""}, {without(without(u, api.IEXTEN), api.ECHO), "ab\x17", "", "ab\x17", ""},
		{char(u, api.VWERASE, 0x7f), "ab cd\x7f", "ab cd\b \b", "ab c", ""}, {char(u, api.VERASE, 255), "ab\x7f\xff", "ab^?\xff", "ab\x7f\xff", ""}, {char(u, api.VERASE, 0x16), "ab\x16", "ab^\b", "ab", ""}, {char(u, api.VKILL, 0x7f), "ab\x7f", "ab\b \b", "a", ""}, {char(u, api.VKILL, 0x17), "ab cd\x17", "ab cd\b \b\b \b", "ab ", ""},
		{u, "abc\x15", "abc" + strings.Repeat("\b \b", 3), "", ""}, {u, "\x15", "", "", ""}, {noKill, "ab\x15c", "ab^U\r\nc", "c", ""}, {wipes, "ab\x15c", "ab^U\r\nc", "c", ""}, {without(noKill, api.ECHOK), "ab\x15c", "ab^Uc", "c", ""}, {without(wipes, api.ECHOK), "\x15c", "^Uc", "c", ""}, {noKill, "\x15", "^U\r\n", "", ""}, {without(u, api.ECHO), "ab\x15c", "", "c", ""}, {without(noKill, api.ECHO), "ab\x15c", "", "c", ""},
		{with(without(noKill, api.ECHO), api.ECHONL), "ab\x15c", "", "c", ""}, {without(u, api.IEXTEN), "ab\x15", "ab\b \b\b \b", "", ""}, {char(u, api.VREPRINT, 0x15), "ab\x15", "ab\b \b\b \b", "", ""},
		{u, "ab\x12c", "ab^R\r\nabc", "abc", ""}, {u, "a\x16\x03\x12", "a^\b^C^R\r\na^C", "a\x03", ""}, {u, "\x12", "^R\r\n", "", ""}, {without(u, api.ECHO), "ab\x12", "", "ab", ""}, {without(u, api.IEXTEN), "ab\x12", "ab^R", "ab\x12", ""}, {without(u, api.OPOST), "ab\x12", "ab^R\nab", "ab", ""}, {char(u, api.VEOF, 0x12), "ab\x12", "ab^R\r\nab", "ab", ""},
	})
}

// P16.1, steps 10 and 11: what ends a line.
func TestEnds(t *testing.T) {
	u := usual()
	e := char(char(u, api.VEOL, ';'), api.VEOL2, ':')
	typesAll(t, []typing{
		{u, "ab\x04", "ab", "", "ab.|"}, {u, "\x04\x04", "", "", ".|.|"}, {u, "ab\x04\x04", "ab", "", "ab.|.|"}, {without(u, api.IEXTEN), "a\x04", "a", "", "a.|"}, {char(u, api.VEOF, 10), "a\nb\r", "ab", "", "a.|b.|"}, {char(u, api.VEOL, 4), "a\x04", "a", "", "a.|"}, {char(u, api.VEOF, 255), "a\x04\xff", "a^D\xff", "a\x04\xff", ""},
		{u, "ab\n", "ab\r\n", "", "ab\n|"}, {u, "\n\n", "\r\n\r\n", "", "\n|\n|"}, {without(u, api.ECHO), "ab\n", "", "", "ab\n|"}, {with(without(u, api.ECHO), api.ECHONL), "ab\n", "\r\n", "", "ab\n|"}, {with(u, api.ECHONL), "ab\n", "ab\r\n", "", "ab\n|"}, {without(u, api.OPOST), "ab\n", "ab\n", "", "ab\n|"}, {without(u, api.IEXTEN), "a\n", "a\r\n", "", "a\n|"},
		{e, "ab;c:d\n", "ab;c:d\r\n", "", "ab;|c:|d\n|"}, {without(e, api.IEXTEN), "ab;c:d\n", "ab;c:d\r\n", "", "ab;|c:d\n|"}, {without(e, api.ECHO), "ab;c:d", "", "d", "ab;|c:|"}, {with(without(e, api.ECHO), api.ECHONL), "ab;c:\n", "\r\n", "", "ab;|c:|\n|"}, {char(u, api.VEOL, 1), "a\x01", "a^A", "", "a\x01|"}, {char(u, api.VEOL, 10), "a\n", "a\r\n", "", "a\n|"}, {with(char(without(u, api.ECHO), api.VEOL2, 10), api.ECHONL), "a\n", "\r\n", "", "a\n|"},
		{with(char(u, api.VEOL, 255), api.PARMRK), "a\xff", "a\xff", "a\xff\xff", ""}, {u, "\x16\nb\n", "^\b\r\nb\r\n", "", "\nb\n|"},
	})
}

// P16.1, step 12: all else is taken, marked.
func TestTaken(t *testing.T) {
	u := usual()
	typesAll(t, []typing{
		{u, "a\x00\x01\x1f ~\x80\xfe\xff", "a^@^A^_ ~\x80\xfe\xff", "a\x00\x01\x1f ~\x80\xfe\xff", ""}, {with(u, api.PARMRK), "a\xffb", "a\xffb", "a\xff\xffb", ""}, {with(u, api.PARMRK, api.ISTRIP), "a\xff", "a\b \b", "", ""}, {with(u, api.ISTRIP), "\xe1", "a", "a", ""}, {with(u, api.IUCLC), "AbZ", "abz", "abz", ""}, {with(u, api.OLCUC), "ab", "AB", "ab", ""}, {u, "\x0f", "^O", "\x0f", ""},
	})
}

// P16.1: a line begins at the column that its first byte was typed at, or that it was shown anew at; what is rubbed off is told from there on.
func TestFrom(t *testing.T) {
	back := func(n int) string { return strings.Repeat("\b \b", n) }
	u := usual()
	for _, x := range []struct {
		t           api.Termios
		written, in string
		out         string
		col, from   int
	}{
		{u, "$ ", "a\t\x7f", "a\t" + back(5), 3, 2}, {u, "$ ", "\t\x7f", "\t" + back(6), 2, 2}, {u, "12345678", "\t\x15", "\t" + back(8), 8, 8}, {u, "$ ", "ab\x12\t\x7f", "ab^R\r\nab\t" + back(6), 2, 0},
		{u, "$ ", "ab\x15c", "ab" + back(2) + "c", 3, 2}, {u, "$ ", "ab\n\t\x7f", "ab\r\n\t" + back(8), 0, 0}, {u, "$ ", "ab\x04\t\x7f", "ab\t" + back(4), 4, 4}, {without(u, api.ECHO), "$ ", "ab", "", 2, 2}, {without(u, api.ECHO), "$ ", "a\x12", "", 2, 2},
		{u, "$ ", "", "", 2, 0}, {u, "$ ", "\n", "\r\n", 0, 0}, {u, "$ ", "\x7f\x15\x17", "", 2, 0}, {u, "$ ", "\x16", "^\b", 2, 0}, {u, "$ ", "\x16a", "^\ba", 3, 2}, {rawly(), "$ ", "ab", "ab", 4, 0},
	} {
		d := ldisc.New(x.t)
		d.Write([]byte(x.written))
		d.Output(99)
		types(d, x.in)
		if string(d.Out) != x.out || d.Col != x.col || d.From != x.from {
			t.Errorf("flags %x: behind %q typed %q: out %q, column %d, from %d, not %q, %d, %d", x.t.Flags, x.written, x.in, d.Out, d.Col, d.From, x.out, x.col, x.from)
		}
	}
	d := ldisc.New(u)
	types(d, "ab")
	d.Write([]byte("xyz"))
	types(d, "c")
	if d.From != 0 || d.Col != 6 {
		t.Errorf("a line that goes on: %+v", d)
	}
	d.T = without(u, api.ECHO)
	types(d, "d\x12")
	if d.From != 6 || string(d.Line) != "abcd" {
		t.Errorf("a line that is shown anew without ECHO: %+v", d)
	}
}

// P16.1: a line that has no room for a byte isn't changed; who types is told by a bell.
func TestFullLine(t *testing.T) {
	u := usual()
	marks := with(u, api.PARMRK)
	quiet := without(u, api.IMAXBEL)
	for _, x := range []struct {
		t     api.Termios
		ahead int
		in    string
		line  int
		out   string
	}{
		{u, 253, "a", 254, "a"}, {u, 254, "a", 254, "\a"}, {u, 254, "ab", 254, "\a\a"}, {quiet, 254, "a", 254, ""}, {without(u, api.ECHO), 254, "a", 254, "\a"}, {without(u, api.ECHO), 253, "a", 254, ""}, {u, 254, "\xff", 254, "\a"}, {u, 253, "\xff", 254, "\xff"},
		{marks, 252, "\xff", 254, "\xff"}, {marks, 253, "\xff", 253, "\a"}, {marks, 253, "\xffa", 254, "\aa"}, {marks, 254, "\xff", 254, "\a"}, {u, 254, "\x16\x03", 254, "^\b\a"}, {marks, 253, "\x16\xff", 254, "^\b\xff"},
		{u, 254, "\n", 0, "\r\n"}, {u, 254, "\x04", 0, ""}, {u, 254, "\x7fa", 254, "\b \ba"}, {u, 300, "a", 300, "\a"}, {u, 300, "\n", 0, "\r\n"}, {u, 300, "\x7f", 299, "\b \b"}, {u, 255, "a", 255, "\a"},
	} {
		d := ldisc.New(x.t)
		d.Line = []byte(of(x.ahead))
		types(d, x.in)
		if len(d.Line) != x.line || string(d.Out) != x.out {
			t.Errorf("%d bytes, typed %q: %d, out %q, not %d, %q", x.ahead, x.in, len(d.Line), d.Out, x.line, x.out)
		}
	}
}

// P16.1: what isn't read by lines has room for so many bytes.
func TestFullRaw(t *testing.T) {
	r := rawly()
	marks := with(r, api.PARMRK)
	for _, x := range []struct {
		t     api.Termios
		ahead int
		in    string
		used  int
		out   string
	}{
		{r, 1023, "a", 1024, "a"}, {r, 1024, "a", 1024, "\a"}, {r, 1024, "a\n", 1024, "\a\a"}, {without(r, api.IMAXBEL), 1024, "a", 1024, ""}, {without(r, api.ECHO), 1024, "a", 1024, "\a"}, {without(r, api.ECHO), 1023, "a", 1024, ""},
		{marks, 1022, "\xff", 1024, "\xff"}, {marks, 1023, "\xff", 1023, "\a"}, {marks, 1023, "\xffa", 1024, "\aa"}, {marks, 1024, "\xff", 1024, "\a"}, {r, 2000, "a", 2000, "\a"}, {r, 254, "abc", 257, "abc"},
	} {
		d := ldisc.New(x.t)
		d.Raw = []byte(of(x.ahead))
		types(d, x.in)
		if len(d.Raw) != x.used || string(d.Out) != x.out {
			t.Errorf("%d bytes, typed %q: %d, out %q, not %d, %q", x.ahead, x.in, len(d.Raw), d.Out, x.used, x.out)
		}
	}
}

// P16.1: a line that finds no room behind those that wait isn't ended, and nothing of its end is seen.
func TestFullLines(t *testing.T) {
	u := usual()
	e := char(u, api.VEOL, ';')
	for _, x := range []struct {
		t           api.Termios
		ahead       int
		in          string
		line, count int
		out         string
	}{
		{u, 1023, "\n", 0, 2, "\r\n"}, {u, 1024, "\n", 0, 1, "\a"}, {u, 1022, "a\n", 0, 2, "a\r\n"}, {u, 1023, "a\n", 1, 1, "a\a"}, {u, 1023, "\x04", 0, 2, ""}, {u, 1024, "\x04", 0, 1, "\a"}, {u, 1022, "a\x04", 0, 2, "a"}, {u, 1023, "a\x04", 1, 1, "a\a"},
		{e, 1023, ";", 0, 2, ";"}, {e, 1024, ";", 0, 1, "\a"}, {e, 1023, "a;", 1, 1, "a\a"}, {without(u, api.IMAXBEL), 1024, "\n", 0, 1, ""}, {without(u, api.ECHO), 1024, "\n", 0, 1, "\a"}, {with(without(u, api.ECHO), api.ECHONL), 1024, "\n", 0, 1, "\a"}, {u, 1024, "ab", 2, 1, "ab"}, {u, 770, of(254) + "\n", 254, 1, of(254) + "\a"}, {u, 769, of(254) + "\n", 0, 2, of(254) + "\r\n"},
	} {
		d := ldisc.New(x.t)
		d.Lines = []canon.Line{{Text: []byte(of(x.ahead))}}
		types(d, x.in)
		if len(d.Line) != x.line || len(d.Lines) != x.count || string(d.Out) != x.out {
			t.Errorf("%d bytes, typed %q: line %d, %d lines, out %q, not %d, %d, %q", x.ahead, x.in, len(d.Line), len(d.Lines), d.Out, x.line, x.count, x.out)
		}
	}
}

// P16.1: bytes that find no room to go out are lost, all that were put out at once, and don't move the column.
func TestFullOut(t *testing.T) {
	u := usual()
	noKill := without(u, api.ECHOKE)
	for _, x := range []struct {
		t    api.Termios
		room int
		in   string
		out  string
		col  int
	}{
		{u, 1, "a", "a", 3}, {u, 0, "a", "", 2}, {u, 1, "ab", "a", 3}, {u, 2, "\n", "\r\n", 0}, {u, 1, "\n", "", 2}, {u, 1, "\n\na", "a", 3}, {u, 2, "\x01", "^A", 4}, {u, 1, "\x01", "", 2}, {u, 1, "\x01a", "a", 3},
		{u, 4, "a\x7f", "a\b \b", 2}, {u, 3, "a\x7f", "a", 3}, {u, 3, "\x16", "^\b", 2}, {u, 1, "\x16", "", 2}, {u, 6, "ab\x12", "ab^R\r\n", 0}, {u, 5, "ab\x12", "abab", 6}, {u, 3, "ab\x12", "ab", 4}, {u, 7, "ab\x12", "ab^R\r\n", 0}, {u, 8, "ab\x12", "ab^R\r\nab", 2},
		{noKill, 6, "ab\x15", "ab^U\r\n", 0}, {noKill, 5, "ab\x15", "ab", 4}, {noKill, 3, "ab\x15", "ab", 4}, {u, 8, "ab\x15", "ab\b \b\b \b", 2}, {u, 7, "ab\x15", "ab", 4}, {with(without(u, api.ECHO), api.ECHONL), 1, "\n", "", 2}, {with(without(u, api.ECHO), api.ECHONL), 2, "\n", "\r\n", 0},
		{u, -1, "a\n\x7f\x12", "", 2}, {u, -9, "a", "", 2}, {without(u, api.OPOST), 1, "\n", "\n", 2},
	} {
		d := ldisc.New(x.t)
		ahead := of(mostOutput - x.room)
		d.Out, d.Col = []byte(ahead), 2
		types(d, x.in)
		if string(d.Out) != ahead+x.out || d.Col != x.col {
			t.Errorf("room for %d, typed %q: out %q, column %d, not %q, %d", x.room, x.in, d.Out[min(len(ahead), len(d.Out)):], d.Col, x.out, x.col)
		}
	}
	for room, want := range []string{"", "\a", "\a\a", "\a\a\a", "\a\a\a"} {
		d := ldisc.New(u)
		d.Line, d.Out, d.Col = []byte(of(254)), []byte(of(mostOutput-room)), 5
		types(d, "abc")
		if string(d.Out[mostOutput-room:]) != want || d.Col != 5 {
			t.Errorf("room for %d bells: %q, column %d", room, d.Out[mostOutput-room:], d.Col)
		}
	}
}

// P16.1, step 8: Show of VKILL and the byte 10 behind it are one echo, which goes out whole or not at all; the line is gone in either case.
func TestFullOutOfKill(t *testing.T) {
	u := usual()
	noKill, wipes := without(u, api.ECHOKE), without(u, api.ECHOE)
	noEnd := without(noKill, api.ECHOK)
	for _, x := range []struct {
		t     api.Termios
		whole string
		col   int
	}{
		{noKill, "^U\r\n", 0}, {wipes, "^U\r\n", 0}, {without(noKill, api.OPOST), "^U\n", 11}, {without(noKill, api.ECHOCTL), "\x15\r\n", 0}, {noEnd, "^U", 11}, {without(wipes, api.ECHOK), "^U", 11}, {char(noKill, api.VKILL, 'k'), "k\r\n", 0}, {char(noEnd, api.VKILL, 'k'), "k", 10}, {without(noKill, api.ECHO), "", 9},
	} {
		for room := range 8 {
			d := ldisc.New(x.t)
			ahead := of(mostOutput - room)
			d.Line, d.Out, d.Col = []byte("ab"), []byte(ahead), 9
			d.Input(x.t.Chars[api.VKILL])
			out, col := x.whole, x.col
			if room < len(x.whole) {
				out, col = "", 9
			}
			if string(d.Out) != ahead+out || d.Col != col || len(d.Line) != 0 {
				t.Errorf("flags %x: room for %d: out %q, column %d, line %q, not %q, %d", x.t.Flags, room, d.Out[len(ahead):], d.Col, d.Line, out, col)
			}
		}
	}
}

// P16.1 and P16.3: behind each byte and each read that is done the other end is told to stop, or to start, by what waits then.
func TestMarks(t *testing.T) {
	u := without(with(usual(), api.IXOFF), api.ECHO)
	r := without(u, api.ICANON)
	for _, x := range []struct {
		t           api.Termios
		held        bool
		waits, line int
		in          string
		out         string
		stays       bool
	}{
		{u, false, 766, 0, "a", "", false}, {u, false, 767, 0, "a", "\x13", true}, {u, false, 768, 0, "a", "\x13", true}, {u, false, 600, 167, "a", "\x13", true}, {u, false, 600, 166, "a", "", false}, {u, true, 767, 0, "a", "", true}, {u, false, 767, 0, "\n", "\x13", true}, {u, false, 767, 0, "\x04", "\x13", true}, {u, false, 766, 0, "\x04", "", false}, {u, false, 768, 0, "\x16", "\x13", true}, {u, false, 768, 0, "\x11", "\x13", true}, {u, false, 768, 0, "\x7f", "\x13", true},
		{u, true, 0, 10, "\x7f", "\x11", false}, {u, true, 255, 2, "\x7f", "\x11", false}, {u, true, 255, 3, "\x7f", "", true}, {u, true, 255, 0, "a", "\x11", false}, {u, true, 256, 0, "a", "", true}, {u, true, 900, 9, "\x03", "\x11", false}, {u, true, 200, 200, "\x15", "\x11", false}, {with(u, api.NOFLSH), true, 900, 9, "\x03", "", true}, {u, true, 0, 0, "\x11", "\x11", false}, {with(u, api.IGNCR), true, 0, 0, "\r", "\x11", false},
		{r, false, 767, 0, "a", "\x13", true}, {r, false, 766, 0, "a", "", false}, {r, true, 255, 0, "a", "\x11", false}, {r, true, 256, 0, "a", "", true},
		{without(u, api.IXOFF), false, 900, 0, "a", "", false}, {without(u, api.IXOFF), true, 0, 0, "a", "", false}, {char(u, api.VSTOP, 255), false, 900, 0, "a", "", true}, {with(u, api.ECHO), false, 767, 0, "a", "a\x13", true}, {with(u, api.ECHO), true, 0, 0, "\x03", "^C\x11", false},
	} {
		d := ldisc.New(x.t)
		d.Flow.Held, d.Line = x.held, []byte(of(x.line))
		if d.Raw = []byte(of(x.waits)); modes.Has(x.t, api.ICANON) {
			d.Lines, d.Raw = []canon.Line{{Text: d.Raw}}, nil
		}
		types(d, x.in)
		if string(d.Out) != x.out || d.Flow.Held != x.stays {
			t.Errorf("%d and %d bytes, held %t, typed %q: out %q, held %t, not %q, %t", x.waits, x.line, x.held, x.in, d.Out, d.Flow.Held, x.out, x.stays)
		}
	}
	d := ldisc.New(u)
	d.Lines, d.Out = []canon.Line{{Text: []byte(of(800))}}, []byte(of(mostOutput))
	if types(d, "a"); len(d.Out) != mostOutput || !d.Flow.Held {
		t.Error("what the other end is told isn't lost, or nobody is held by it")
	}
}

// states is disciplines in the middle of something.
func states() []ldisc.Disc {
	waits := []canon.Line{{Text: []byte("one\n")}, {Text: []byte("two"), Eof: true}}
	return []ldisc.Disc{
		{},
		{Line: []byte("ab c\x01\xc3\xa9"), Lines: waits, Out: []byte("out"), Col: 13, From: 5, Idle: 7},
		{Line: []byte("a\t"), Next: true, Out: []byte("out"), Col: 3, From: 1},
		{Raw: []byte("raw"), Out: []byte("out"), Idle: 3},
		{Line: []byte(of(longestLine)), Lines: []canon.Line{{Text: []byte(of(900))}}, Raw: []byte(of(mostInput - 1)), Out: []byte(of(mostOutput - 2)), Col: 9},
	}
}

// P16.1: each byte, whatever is set near the default, in the middle of anything, does as the document's steps say.
func TestEachByte(t *testing.T) {
	random := rand.New(rand.NewSource(1612))
	for range 150 {
		s := anySetting(random)
		for _, d := range states() {
			d.T = s
			for c := range 256 {
				one, two := pair(d)
				if got, want := one.Input(byte(c)), two.input(byte(c)); !slices.Equal(got, want) {
					t.Fatalf("%x typed to %+v: %v, not %v", c, d, got, want)
				}
				equal(t, d, "Input", one, two)
			}
		}
	}
}

// P16.1: the bytes that mean something, under each combination of the flags that this layer asks.
func TestFlags(t *testing.T) {
	asked := []int{api.ISIG, api.ICANON, api.IEXTEN, api.ECHO, api.ECHOE, api.ECHOK, api.ECHONL, api.NOFLSH, api.ECHOCTL, api.ECHOKE, api.IXON, api.IMAXBEL}
	l := states()
	for i := range 1 << len(asked) {
		s := char(char(usual(), api.VEOL, ';'), api.VEOL2, ':')
		for place, op := range asked {
			s = modes.Set(s, op, i>>place&1 == 1)
		}
		for k, d := range l {
			if k == 0 || i%len(l) != k && k != 1 {
				continue // each state but the first one in turns
			}
			d.T = s
			for _, c := range []byte(meaning + ";:") {
				one, two := pair(d)
				if got, want := one.Input(c), two.input(c); !slices.Equal(got, want) {
					t.Fatalf("%x typed to %+v: %v, not %v", c, d, got, want)
				}
				equal(t, d, "Input", one, two)
			}
		}
	}
}

// P16.1: Idle is counted from each byte that is typed, used up or not.
func TestIdleAgain(t *testing.T) {
	u := with(usual(), api.IGNCR)
	for _, s := range []api.Termios{u, without(u, api.ICANON)} {
		for _, c := range []byte("a\n\r\x03\x11\x13\x16\x7f\x04\xff") {
			d := ldisc.New(s)
			d.Idle = 99
			if d.Input(c); d.Idle != 0 {
				t.Errorf("typed %x: idle for %d", c, d.Idle)
			}
		}
	}
}
