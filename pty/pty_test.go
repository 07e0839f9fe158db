package pty_test

import (
	"bytes"
	"math"
	"math/rand"
	"slices"
	"strings"
	"testing"

	"parlour/api"
	"parlour/canon"
	"parlour/ldisc"
	"parlour/modes"
	"parlour/pty"
)

// size is a terminal's size at first.
var size = api.Size{Cols: 80, Rows: 24, Width: 640, Height: 480}

// usual is a terminal that is set by default, opened once, with a group in front, or none where that is 0.
func usual(group int) *pty.Pty {
	p := pty.New(modes.Default(), size)
	p.Slaves, p.Group = 1, group
	return p
}

// with and without are the default with a flag, and without it.
func with(op int) api.Termios    { return modes.Set(modes.Default(), op, true) }
func without(op int) api.Termios { return modes.Set(modes.Default(), op, false) }

// of is so many bytes.
func of(n int) []byte { return bytes.Repeat([]byte{'x'}, n) }

// to is signals to a group.
func to(group int, signals ...int) []pty.Event {
	var l []pty.Event
	for _, s := range signals {
		l = append(l, pty.Event{Group: group, Sig: s})
	}
	return l
}

// The numbers of the document.
func TestNames(t *testing.T) {
	if pty.Now != 1 || pty.Drain != 2 || pty.Flush != 3 {
		t.Error("when a setting is to count has another number")
	}
}

// The document's examples.
func TestExamples(t *testing.T) {
	p := pty.New(modes.Default(), size)
	if n, l := p.MasterWrite([]byte("a\n")); n != 2 || len(l) != 0 {
		t.Error(n, l)
	}
	if b, e := p.SlaveRead(9, 0); string(b) != "a\n" || e != api.OK {
		t.Errorf("%q, %d", b, e)
	}
	if b, e := p.MasterRead(9); string(b) != "a\r\n" || e != api.OK {
		t.Errorf("%q, %d", b, e)
	}
	p.Group = 7
	if n, l := p.MasterWrite([]byte{3}); n != 1 || !slices.Equal(l, to(7, api.SIGINT)) {
		t.Error(n, l)
	}
	if l := p.Hangup(); !slices.Equal(l, to(7, api.SIGHUP, api.SIGCONT)) {
		t.Error(l)
	}
	if b, e := p.SlaveRead(9, 0); len(b) != 0 || e != api.OK {
		t.Errorf("%q, %d", b, e)
	}
}

// P17.1: a new terminal has a discipline of its own and its size, all else zero, whether the setting is right or not.
func TestNew(t *testing.T) {
	random := rand.New(rand.NewSource(171))
	for range 300 {
		s, z := anySetting(random), anySize(random)
		if random.Intn(3) == 0 {
			s = wrongSetting(random)
		}
		p := pty.New(s, z)
		if !same(p, &model{Disc: ldisc.New(s), Size: z}) {
			t.Errorf("of %v, %v: %+v", s, z, p)
		}
		if q := pty.New(s, z); p == q || p.Disc == q.Disc {
			t.Error("two terminals are one")
		}
	}
}

// P17.1: the slave's end is opened, unless the terminal is hung, and closed as often.
func TestOpenAndClose(t *testing.T) {
	for _, x := range []struct {
		slaves                int
		hung                  bool
		opened, closed        api.Errno
		afterOpen, afterClose int
	}{
		{0, false, api.OK, api.ErrState, 1, 0}, {1, false, api.OK, api.OK, 2, 0}, {5, false, api.OK, api.OK, 6, 4}, {-1, false, api.OK, api.ErrState, 0, -1}, {math.MinInt, false, api.OK, api.ErrState, math.MinInt + 1, math.MinInt}, {math.MaxInt - 1, false, api.OK, api.OK, math.MaxInt, math.MaxInt - 2},
		{0, true, api.ErrIO, api.ErrState, 0, 0}, {2, true, api.ErrIO, api.OK, 2, 1}, {-3, true, api.ErrIO, api.ErrState, -3, -3},
	} {
		p := usual(7)
		p.Slaves, p.Hung = x.slaves, x.hung
		if e := p.Open(); e != x.opened || p.Slaves != x.afterOpen {
			t.Errorf("%d, hung %t: Open: error %d, %d", x.slaves, x.hung, e, p.Slaves)
		}
		p.Slaves = x.slaves
		if e := p.Close(); e != x.closed || p.Slaves != x.afterClose {
			t.Errorf("%d, hung %t: Close: error %d, %d", x.slaves, x.hung, e, p.Slaves)
		}
	}
}

// P17.2: what is typed, and the events that come of it, in order, to the group that there is.
func TestMasterWrite(t *testing.T) {
	for _, x := range []struct {
		t       api.Termios
		group   int
		b       string
		events  []pty.Event
		out     string
		waiting int
	}{
		{modes.Default(), 7, "", nil, "", 0}, {modes.Default(), 7, "ab", nil, "ab", 2}, {modes.Default(), 7, "\x03", to(7, 2), "^C", 0}, {modes.Default(), 7, "a\x1cb\x03c\x1ad", to(7, 3, 2, 20), "^Cc^Zd", 1}, {modes.Default(), 7, "\x03\x03", to(7, 2, 2), "^C", 0},
		{modes.Default(), 0, "a\x03b", nil, "^Cb", 1}, {modes.Default(), -4, "a\x03b", to(-4, 2), "^Cb", 1}, {modes.Default(), math.MaxInt, "\x1a", to(math.MaxInt, 20), "^Z", 0}, {modes.Default(), math.MinInt, "\x1a", to(math.MinInt, 20), "^Z", 0},
		{without(api.ISIG), 7, "a\x03", nil, "a^C", 2}, {with(api.NOFLSH), 7, "a\x03b", to(7, 2), "a^Cb", 2}, {without(api.ECHO), 7, "a\n\x16\x03b", nil, "", 4}, {without(api.ICANON), 7, "a\x03b\x1ac", to(7, 2, 20), "^Cb^Zc", 1}, {modes.Default(), 7, "\x13a\x11", nil, "a", 1},
	} {
		p := usual(x.group)
		p.Disc.T = x.t
		n, l := p.MasterWrite([]byte(x.b))
		if n != len(x.b) || !slices.Equal(l, x.events) || string(p.Disc.Out) != x.out || p.Disc.Used() != x.waiting {
			t.Errorf("%q to group %d: %d, %v, out %q, %d wait, not %v, %q, %d", x.b, x.group, n, l, p.Disc.Out, p.Disc.Used(), x.events, x.out, x.waiting)
		}
		p = usual(x.group)
		p.Disc.T = x.t
		p.Hung = true
		if n, l := p.MasterWrite([]byte(x.b)); n != 0 || len(l) != 0 || p.Disc.Used() != 0 || len(p.Disc.Out) != 0 {
			t.Errorf("hung: %q: %d, %v", x.b, n, l)
		}
	}
}

// P17.2: nothing is typed where 4096 bytes wait, from the first byte on at which they do.
func TestMasterWriteFull(t *testing.T) {
	for _, x := range []struct {
		waiting int
		b       string
		n       int
		events  []pty.Event
		used    int
	}{
		{4094, "abcd", 2, nil, 4096}, {4095, "abcd", 1, nil, 4096}, {4096, "abcd", 0, nil, 4096}, {4097, "abcd", 0, nil, 4097}, {9000, "\x03", 0, nil, 9000}, {4096, "\x03", 0, nil, 4096}, {4095, "\x03abc", 4, to(7, 2), 3}, {4095, "a\x03", 1, nil, 4096}, {4094, "a\x03", 2, to(7, 2), 0}, {4095, "\x7f\x7f\x7f", 3, nil, 4095}, {4095, "\n\n", 1, nil, 4096}, {4096, "", 0, nil, 4096},
	} {
		for sort := range 2 {
			p := usual(7)
			if p.Disc.Raw = of(x.waiting); sort == 1 {
				p.Disc.Raw, p.Disc.Lines = of(100), []canon.Line{{Text: of(x.waiting - 101), Eof: true}}
				if strings.Contains(x.b, "\n") {
					continue // lines that are full take no other one
				}
			}
			if n, l := p.MasterWrite([]byte(x.b)); n != x.n || !slices.Equal(l, x.events) || p.Disc.Used() != x.used {
				t.Errorf("%d wait, %q: %d, %v, %d wait then, not %d, %v, %d", x.waiting, x.b, n, l, p.Disc.Used(), x.n, x.events, x.used)
			}
		}
	}
	p := usual(7)
	if n, _ := p.MasterWrite(of(100000)); n != 100000 || p.Disc.Used() != 254 {
		t.Errorf("%d of many bytes are typed, %d wait", n, p.Disc.Used())
	}
}

// P17.2: what goes out, and why nothing does.
func TestMasterRead(t *testing.T) {
	for _, x := range []struct {
		out           string
		stopped, hung bool
		slaves, n     int
		got           string
		e             api.Errno
		left          string
	}{
		{"abc", false, false, 1, 2, "ab", api.OK, "c"}, {"abc", false, false, 1, 3, "abc", api.OK, ""}, {"abc", false, false, 1, math.MaxInt, "abc", api.OK, ""}, {"abc", false, false, 0, 2, "ab", api.OK, "c"}, {"abc", false, false, -1, 9, "abc", api.OK, ""},
		{"abc", false, false, 1, 0, "", api.OK, "abc"}, {"abc", false, false, 1, -1, "", api.OK, "abc"}, {"abc", false, false, 1, math.MinInt, "", api.OK, "abc"}, {"abc", false, false, 0, 0, "", api.OK, "abc"}, {"abc", false, false, -9, -1, "", api.OK, "abc"},
		{"", false, false, 1, 1, "", api.ErrAgain, ""}, {"", false, false, 1, math.MaxInt, "", api.ErrAgain, ""}, {"", false, false, 1, 0, "", api.OK, ""}, {"", false, false, 1, -5, "", api.OK, ""}, {"", false, false, 0, 1, "", api.ErrIO, ""}, {"", false, false, 0, 0, "", api.ErrIO, ""}, {"", false, false, 0, -1, "", api.ErrIO, ""}, {"", false, false, -1, 1, "", api.ErrIO, ""}, {"", false, false, math.MinInt, 0, "", api.ErrIO, ""},
		{"abc", true, false, 1, 2, "", api.ErrAgain, "abc"}, {"abc", true, false, 0, 2, "", api.ErrAgain, "abc"}, {"abc", true, false, 0, 0, "", api.OK, "abc"}, {"", true, false, 0, 2, "", api.ErrIO, ""}, {"", true, false, 1, 2, "", api.ErrAgain, ""},
		{"abc", false, true, 1, 2, "", api.ErrIO, "abc"}, {"", false, true, 1, 0, "", api.ErrIO, ""}, {"abc", true, true, 0, -1, "", api.ErrIO, "abc"},
	} {
		p := usual(7)
		p.Disc.Out, p.Disc.Flow.Stopped, p.Hung, p.Slaves = []byte(x.out), x.stopped, x.hung, x.slaves
		if b, e := p.MasterRead(x.n); string(b) != x.got || e != x.e || string(p.Disc.Out) != x.left || p.Slaves != x.slaves {
			t.Errorf("%+v: %q, error %d, %q left", x, b, e, p.Disc.Out)
		}
	}
}

// P17.3: a program's reads, which wait, or are done, or find the master's end gone.
func TestSlaveRead(t *testing.T) {
	timed := modes.Set(modes.Default(), api.ICANON, false)
	timed.Min, timed.Time = 0, 5
	for _, x := range []struct {
		t         api.Termios
		typed     string
		hung      bool
		n, waited int
		got       string
		e         api.Errno
	}{
		{modes.Default(), "", false, 9, 0, "", api.ErrAgain}, {modes.Default(), "ab", false, 9, 99, "", api.ErrAgain}, {modes.Default(), "ab\nc\n", false, 9, 0, "ab\n", api.OK}, {modes.Default(), "ab\n", false, 1, 0, "a", api.OK}, {modes.Default(), "ab\n", false, 0, 0, "", api.OK}, {modes.Default(), "ab\n", false, -1, 0, "", api.OK}, {modes.Default(), "", false, 0, 0, "", api.ErrAgain}, {modes.Default(), "\x04", false, 9, 0, "", api.OK}, {modes.Default(), "ab\n", false, math.MaxInt, math.MinInt, "ab\n", api.OK},
		{without(api.ICANON), "ab\nc", false, 9, 0, "ab\nc", api.OK}, {without(api.ICANON), "", false, 9, 99, "", api.ErrAgain}, {without(api.ICANON), "", false, 0, 0, "", api.OK}, {timed, "", false, 9, 4, "", api.ErrAgain}, {timed, "", false, 9, 5, "", api.OK}, {timed, "a", false, 9, 0, "a", api.OK},
		{modes.Default(), "ab\n", true, 9, 0, "", api.OK}, {modes.Default(), "", true, 9, 0, "", api.OK}, {without(api.ICANON), "ab", true, 1, 9, "", api.OK}, {without(api.ICANON), "", true, -1, -1, "", api.OK},
	} {
		p := usual(7)
		p.Disc.T = x.t
		p.MasterWrite([]byte(x.typed))
		before := p.Disc.Used()
		if p.Hung = x.hung; x.hung {
			p.Slaves = 0
		}
		b, e := p.SlaveRead(x.n, x.waited)
		if string(b) != x.got || e != x.e {
			t.Errorf("typed %q, hung %t, SlaveRead of %d, waited %d: %q, error %d, not %q, %d", x.typed, x.hung, x.n, x.waited, b, e, x.got, x.e)
		}
		if (x.hung || e != api.OK) && p.Disc.Used() != before {
			t.Errorf("typed %q, hung %t: what waited is gone", x.typed, x.hung)
		}
	}
}

// P17.3: a program's writes, of which as many bytes go as there is room for.
func TestSlaveWrite(t *testing.T) {
	for _, x := range []struct {
		ahead int
		hung  bool
		b     string
		n     int
		e     api.Errno
		out   string
	}{
		{0, false, "ab\n", 3, api.OK, "ab\r\n"}, {0, false, "", 0, api.OK, ""}, {4096, false, "", 0, api.OK, ""}, {4096, false, "a", 0, api.ErrAgain, ""}, {4095, false, "ab", 1, api.OK, "a"}, {4095, false, "\n", 0, api.ErrAgain, ""}, {4094, false, "\n\n", 1, api.OK, "\r\n"}, {5000, false, "ab", 0, api.ErrAgain, ""}, {5000, false, "", 0, api.OK, ""},
		{0, true, "ab", 0, api.ErrIO, ""}, {0, true, "", 0, api.ErrIO, ""}, {4096, true, "ab", 0, api.ErrIO, ""},
	} {
		for _, slaves := range []int{0, 1} {
			p := usual(7)
			p.Disc.Out, p.Hung, p.Slaves = of(x.ahead), x.hung, slaves
			if n, e := p.SlaveWrite([]byte(x.b)); n != x.n || e != x.e || string(p.Disc.Out) != string(of(x.ahead))+x.out {
				t.Errorf("behind %d, hung %t, %q: %d, error %d, %q", x.ahead, x.hung, x.b, n, e, p.Disc.Out[x.ahead:])
			}
		}
	}
	p := usual(7)
	p.Disc.Flow.Stopped = true
	if n, e := p.SlaveWrite([]byte("ab")); n != 2 || e != api.OK {
		t.Errorf("what is stopped isn't written: %d, error %d", n, e)
	}
	p.Disc.T = with(api.ONOCR)
	p.Disc.Out, p.Disc.Col = of(4096), 0
	if n, e := p.SlaveWrite([]byte("\r\ra")); n != 2 || e != api.OK {
		t.Errorf("bytes of which nothing goes out: %d, error %d", n, e)
	}
}

// P17.4: why a setting isn't taken, in this order; nothing comes of it then.
func TestSetAttrErrors(t *testing.T) {
	wrong := modes.Default()
	wrong.Min = 256
	for when := -1; when <= 5; when++ {
		for _, hung := range []bool{false, true} {
			for _, s := range []api.Termios{without(api.ECHO), wrong} {
				for _, out := range []string{"", "x"} {
					p := usual(7)
					p.MasterWrite([]byte("ab\ncd\x16"))
					p.Disc.Out, p.Hung = []byte(out), hung
					want := api.OK
					switch {
					case when < 1 || when > 3:
						want = api.ErrArg
					case hung:
						want = api.ErrIO
					case s == wrong:
						want = api.ErrForm
					case when != 1 && out != "":
						want = api.ErrAgain
					}
					before := own(*p)
					if e := p.SetAttr(when, s); e != want {
						t.Errorf("when %d, hung %t, out %q: error %d, not %d", when, hung, out, e, want)
					}
					if m := model(before); want != api.OK && !same(p, &m) {
						t.Errorf("when %d, hung %t, out %q: something came of it", when, hung, out)
					}
				}
			}
		}
	}
	for _, when := range []int{math.MinInt, -3, 256, 257, 1<<32 + 1, math.MaxInt} {
		if e := usual(7).SetAttr(when, modes.Default()); e != api.ErrArg {
			t.Errorf("when %d: error %d", when, e)
		}
	}
}

// P17.4: a setting counts; what was typed stays, or is thrown away with Flush, before lines become bytes or bytes lines.
func TestSetAttr(t *testing.T) {
	raw := without(api.ICANON)
	for _, x := range []struct {
		when     int
		from, to api.Termios
		typed    string
		line     string
		lines    int
		raw      string
		next     bool
	}{
		{pty.Now, modes.Default(), without(api.ECHO), "ab\ncd\x16", "cd", 1, "", true}, {pty.Drain, modes.Default(), without(api.ECHO), "ab\ncd\x16", "cd", 1, "", true}, {pty.Flush, modes.Default(), without(api.ECHO), "ab\ncd\x16", "", 0, "", false}, {pty.Flush, modes.Default(), modes.Default(), "ab\ncd", "", 0, "", false},
		{pty.Now, modes.Default(), raw, "ab\ncd\x16", "", 0, "ab\ncd", false}, {pty.Drain, modes.Default(), raw, "ab\ncd\x16", "", 0, "ab\ncd", false}, {pty.Flush, modes.Default(), raw, "ab\ncd\x16", "", 0, "", false},
		{pty.Now, raw, modes.Default(), "ab", "", 1, "", false}, {pty.Drain, raw, modes.Default(), "ab", "", 1, "", false}, {pty.Flush, raw, modes.Default(), "ab", "", 0, "", false}, {pty.Flush, raw, raw, "ab", "", 0, "", false},
	} {
		p := usual(7)
		p.Disc.T = x.from
		p.MasterWrite([]byte(x.typed))
		p.MasterRead(99)
		d := p.Disc
		if e := p.SetAttr(x.when, x.to); e != api.OK || p.Disc != d || d.T != x.to || string(d.Line) != x.line || len(d.Lines) != x.lines || string(d.Raw) != x.raw || d.Next != x.next {
			t.Errorf("when %d, typed %q: error %d, %+v", x.when, x.typed, e, d)
		}
	}
	p := usual(7)
	p.SlaveWrite([]byte("out"))
	p.Disc.Flow.Stopped = true
	if e := p.SetAttr(pty.Now, raw); e != api.OK || string(p.Disc.Out) != "out" {
		t.Errorf("what goes out doesn't wait for a setting: error %d, %q", e, p.Disc.Out)
	}
	if e := p.SetAttr(pty.Drain, raw); e != api.ErrAgain {
		t.Errorf("what is stopped has gone out: error %d", e)
	}
}

// P17.4: another size is told the group in front, the same one isn't; any of its numbers makes it another.
func TestSetSize(t *testing.T) {
	for _, group := range []int{7, 0, -2} {
		for _, hung := range []bool{false, true} {
			p := usual(group)
			p.Hung = hung
			for _, s := range []api.Size{{Cols: 81, Rows: 24, Width: 640, Height: 480}, {Cols: 81, Rows: 25, Width: 640, Height: 480}, {Cols: 81, Rows: 25, Width: 641, Height: 480}, {Cols: 81, Rows: 25, Width: 641, Height: 481}, {}, {Cols: math.MaxUint32}, size} {
				want := to(group, api.SIGWINCH)
				if group == 0 {
					want = nil
				}
				if l := p.SetSize(s); !slices.Equal(l, want) || p.Size != s {
					t.Errorf("group %d: %v: %v, %v", group, s, l, p.Size)
				}
				if l := p.SetSize(s); len(l) != 0 || p.Size != s {
					t.Errorf("group %d: %v again: %v", group, s, l)
				}
			}
		}
	}
}

// P17.5: a terminal becomes a session's once, and has a group in front then.
func TestBindAndSetGroup(t *testing.T) {
	for _, x := range []struct {
		has            int
		session, group int
		e              api.Errno
	}{
		{0, 5, 6, api.OK}, {0, 1, 1, api.OK}, {0, math.MaxInt, math.MaxInt, api.OK}, {0, 0, 6, api.ErrArg}, {0, 5, 0, api.ErrArg}, {0, -1, 6, api.ErrArg}, {0, 5, -1, api.ErrArg}, {0, math.MinInt, math.MinInt, api.ErrArg},
		{5, 5, 6, api.ErrPerm}, {5, 8, 6, api.ErrPerm}, {5, 0, 6, api.ErrArg}, {5, 6, 0, api.ErrArg}, {-5, 5, 6, api.ErrPerm},
	} {
		p := usual(3)
		p.Session = x.has
		session, group := x.has, 3
		if x.e == api.OK {
			session, group = x.session, x.group
		}
		if e := p.Bind(x.session, x.group); e != x.e || p.Session != session || p.Group != group {
			t.Errorf("Bind %d, %d over %d: error %d, %d, %d", x.session, x.group, x.has, e, p.Session, p.Group)
		}
	}
	for _, x := range []struct {
		has, group int
		e          api.Errno
	}{
		{5, 6, api.OK}, {5, 3, api.OK}, {5, 1, api.OK}, {5, math.MaxInt, api.OK}, {5, 0, api.ErrArg}, {5, -1, api.ErrArg}, {5, math.MinInt, api.ErrArg}, {0, 6, api.ErrState}, {0, 0, api.ErrArg}, {0, -1, api.ErrArg}, {-5, 6, api.OK},
	} {
		p := usual(3)
		p.Session = x.has
		group := 3
		if x.e == api.OK {
			group = x.group
		}
		if e := p.SetGroup(x.group); e != x.e || p.Session != x.has || p.Group != group {
			t.Errorf("SetGroup %d of %d: error %d, %d", x.group, x.has, e, p.Group)
		}
	}
}

// P17.5: a hangup throws away what waits, is told the group in front once, and leaves all else.
func TestHangup(t *testing.T) {
	for _, group := range []int{7, 0, -2, math.MaxInt} {
		p := usual(group)
		p.Session = 5
		p.MasterWrite([]byte("ab\ncd\x16"))
		p.Disc.Raw = []byte("raw")
		p.Disc.Flow.Stopped, p.Disc.Flow.Held = true, true
		want := own(*p)
		want.Hung = true
		want.Disc.Line, want.Disc.Lines, want.Disc.Raw, want.Disc.Out, want.Disc.Next = nil, nil, nil, nil, false
		m := model(want)
		events := to(group, api.SIGHUP, api.SIGCONT)
		if group == 0 {
			events = nil
		}
		d := p.Disc
		if l := p.Hangup(); !slices.Equal(l, events) || !same(p, &m) || p.Disc != d {
			t.Errorf("group %d: %v, %+v", group, l, p)
		}
		p.Disc.Out, p.Disc.Line = []byte("out"), []byte("line")
		if l := p.Hangup(); len(l) != 0 || string(p.Disc.Out) != "out" || string(p.Disc.Line) != "line" {
			t.Errorf("group %d: again: %v, %+v", group, l, p.Disc)
		}
	}
}

// P17.6: a terminal that is hung says nothing more and takes nothing, whatever is asked of it.
func TestHungIsSilent(t *testing.T) {
	random := rand.New(rand.NewSource(176))
	for range 500 {
		p := usual(7)
		p.MasterWrite(anyBytes(random, 50))
		p.Hangup()
		for range 20 {
			b := anyBytes(random, random.Intn(20))
			n, l := p.MasterWrite(b)
			k, e := p.SlaveWrite(b)
			out, f := p.MasterRead(anyNumber(random))
			got, g := p.SlaveRead(anyNumber(random), anyNumber(random))
			if n != 0 || len(l) != 0 || k != 0 || e != api.ErrIO || len(out) != 0 || f != api.ErrIO || len(got) != 0 || g != api.OK || p.Open() != api.ErrIO || p.SetAttr(pty.Now, anySetting(random)) != api.ErrIO || len(p.Hangup()) != 0 {
				t.Fatalf("%d, %v, %d, error %d, %q, error %d, %q, error %d", n, l, k, e, out, f, got, g)
			}
			if p.Disc.Used() != 0 || len(p.Disc.Out) != 0 {
				t.Fatalf("%+v", p.Disc)
			}
		}
	}
}

// P17.6: events go to the group that is in front then.
func TestEventsOfTheGroupInFront(t *testing.T) {
	p := pty.New(modes.Default(), size)
	_, none := p.MasterWrite([]byte{3})
	p.Bind(5, 6)
	_, first := p.MasterWrite([]byte{3})
	p.SetGroup(9)
	_, second := p.MasterWrite([]byte{26})
	third := p.SetSize(api.Size{})
	p.SetGroup(6)
	fourth := p.Hangup()
	if l := slices.Concat(none, first, second, third, fourth); !slices.Equal(l, slices.Concat(to(6, api.SIGINT), to(9, api.SIGTSTP, api.SIGWINCH), to(6, api.SIGHUP, api.SIGCONT))) {
		t.Error(l)
	}
}

// P17.6: what is typed is read as the discipline tells, and what is written goes out, however it is cut.
func TestThrough(t *testing.T) {
	random := rand.New(rand.NewSource(1761))
	for range 200 {
		s := anySetting(random)
		p, d := pty.New(s, size), ldisc.New(s)
		p.Open()
		b, w := anyBytes(random, random.Intn(200)), anyBytes(random, random.Intn(200))
		for cut := b; len(cut) > 0; {
			n := 1 + random.Intn(len(cut))
			if k, _ := p.MasterWrite(cut[:n]); k != n {
				t.Fatalf("%d of %d are typed", k, n)
			}
			cut = cut[n:]
		}
		for _, c := range b {
			d.Input(c)
		}
		for cut := w; len(cut) > 0; {
			n := 1 + random.Intn(len(cut))
			if k, e := p.SlaveWrite(cut[:n]); k != n || e != api.OK {
				t.Fatalf("%d of %d are written, error %d", k, n, e)
			}
			cut = cut[n:]
		}
		d.Write(w)
		if !sameDisc(p.Disc, d) {
			t.Fatalf("typed %q, written %q: %+v, not %+v", b, w, p.Disc, d)
		}
		p.Disc.Flow.Stopped = false
		var out []byte
		for {
			b, e := p.MasterRead(1 + random.Intn(20))
			if e != api.OK {
				break
			}
			out = append(out, b...)
		}
		if !bytes.Equal(out, d.Out) {
			t.Fatalf("%q goes out, not %q", out, d.Out)
		}
	}
}

// A call of a terminal that isn't there answers nothing.
func TestNil(t *testing.T) {
	var p *pty.Pty
	n, l := p.MasterWrite([]byte("a"))
	b, e := p.MasterRead(9)
	r, f := p.SlaveRead(9, 9)
	k, g := p.SlaveWrite([]byte("a"))
	if n != 0 || len(l) != 0 || len(b) != 0 || len(r) != 0 || k != 0 || len(p.SetSize(size)) != 0 || len(p.Hangup()) != 0 {
		t.Error(n, l, b, r, k)
	}
	for i, e := range []api.Errno{e, f, g, p.Open(), p.Close(), p.SetAttr(pty.Now, modes.Default()), p.SetAttr(0, api.Termios{Min: -1}), p.Bind(1, 1), p.Bind(0, 0), p.SetGroup(1), p.SetGroup(0)} {
		if e != api.ErrNil {
			t.Errorf("%d: error %d", i, e)
		}
	}
}

// A terminal without a discipline has one from the first call on, whichever it is, whatever it answers; all its fields are zero.
func TestNilDiscipline(t *testing.T) {
	for name, call := range map[string]func(p *pty.Pty){
		"MasterRead": func(p *pty.Pty) { p.MasterRead(9) },
		"Open":       func(p *pty.Pty) { p.Open() },
		"Close":      func(p *pty.Pty) { p.Close() },
		"SlaveRead":  func(p *pty.Pty) { p.SlaveRead(9, 0) },
		"SetAttr":    func(p *pty.Pty) { p.SetAttr(0, api.Termios{}) },
		"SetSize":    func(p *pty.Pty) { p.SetSize(size) },
		"the same":   func(p *pty.Pty) { p.SetSize(p.Size) },
		"Bind":       func(p *pty.Pty) { p.Bind(0, 0) },
		"SetGroup":   func(p *pty.Pty) { p.SetGroup(0) },
		"Hangup":     func(p *pty.Pty) { p.Hangup() },
		"nothing":    func(p *pty.Pty) { p.MasterWrite(nil); p.SlaveWrite(nil) },
	} {
		for _, hung := range []bool{false, true} {
			p := &pty.Pty{Hung: hung}
			if call(p); !sameDisc(p.Disc, &ldisc.Disc{}) {
				t.Errorf("%s, hung %t: %+v", name, hung, p.Disc)
			}
		}
	}
	p := &pty.Pty{Group: 7}
	if n, l := p.MasterWrite([]byte("a\x03")); n != 2 || len(l) != 0 || string(p.Disc.Raw) != "a\x03" || len(p.Disc.Out) != 0 {
		t.Errorf("%d, %v, %+v", n, l, p.Disc)
	}
	p = &pty.Pty{}
	if n, e := p.SlaveWrite([]byte("a\n")); n != 2 || e != api.OK || string(p.Disc.Out) != "a\n" {
		t.Errorf("%d, error %d, %+v", n, e, p.Disc)
	}
	p = &pty.Pty{}
	if e := p.SetAttr(pty.Flush, modes.Default()); e != api.OK || p.Disc.T != modes.Default() {
		t.Errorf("error %d, %+v", e, p.Disc)
	}
}

// P17.1 to P17.5: one call, any one, of a terminal whose fields are set to anything.
func TestAnyCall(t *testing.T) {
	random := rand.New(rand.NewSource(1701))
	for range 20000 {
		one, two := pair(anyPty(random))
		calls(t, random, one, two)
	}
}

// P17.1 to P17.6: calls one behind the other, any ones.
func TestScripts(t *testing.T) {
	random := rand.New(rand.NewSource(1702))
	for range 300 {
		s := anySetting(random)
		one, two := pair(*pty.New(s, size))
		for range 200 {
			calls(t, random, one, two)
			if d := one.Disc; len(d.Out) > 4096 || d.Used() > 254+1025+1024 {
				t.Fatalf("%d go out, %d wait", len(d.Out), d.Used())
			}
		}
	}
}

// spoil writes into a list, its spare room included.
func spoil[T any](l []T, x T) {
	l = l[:cap(l)]
	for i := range l {
		l[i] = x
	}
}

// What is handed in is neither changed nor kept, and what is handed out isn't the terminal's any more.
func TestMemory(t *testing.T) {
	random := rand.New(rand.NewSource(177))
	for range 2000 {
		p := anyPty(random)
		if p.Disc == nil {
			continue
		}
		one, two := pair(p)
		room := anyBytes(random, 40)
		before := slices.Clone(room)
		_, events := one.MasterWrite(room[:20])
		_, want := two.masterWrite(before[:20])
		one.SlaveWrite(room[10:30])
		two.slaveWrite(before[10:30])
		if !bytes.Equal(room, before) || !slices.Equal(events, want) {
			t.Fatal("what is handed in is changed")
		}
		spoil(room, 0x55)
		equal(t, "MasterWrite and SlaveWrite", p, one, two)
		n := random.Intn(30)
		b, _ := one.MasterRead(n)
		two.masterRead(n)
		spoil(b, 0x55)
		b, _ = one.SlaveRead(n, 9)
		two.slaveRead(n, 9)
		spoil(b, 0x55)
		spoil(events, pty.Event{})
		spoil(one.SetSize(size), pty.Event{})
		two.setSize(size)
		equal(t, "MasterRead and SlaveRead", p, one, two)
		other := own(*one)
		first, second := one.Hangup(), other.Hangup()
		spoil(first, pty.Event{})
		if len(second) > 0 && second[0].Sig != api.SIGHUP {
			t.Fatal("events are shared")
		}
	}
}

// Terminals are apart from one another.
func TestApart(t *testing.T) {
	random := rand.New(rand.NewSource(178))
	for range 100 {
		s := anySetting(random)
		one, first := pair(*pty.New(s, size))
		other, second := pair(*pty.New(s, size))
		for range 60 {
			calls(t, random, one, first)
			calls(t, random, other, second)
			equal(t, "the other one's", *other, one, first)
		}
	}
}
