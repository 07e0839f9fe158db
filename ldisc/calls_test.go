package ldisc_test

import (
	"bytes"
	"math"
	"math/rand"
	"slices"
	"strings"
	"testing"

	"parlour/api"
	"parlour/canon"
	"parlour/flow"
	"parlour/ldisc"
	"parlour/mapin"
	"parlour/modes"
)

// P16.2: as many bytes are written as find room, and the column is behind them.
func TestWrite(t *testing.T) {
	u := usual()
	for _, x := range []struct {
		t       api.Termios
		ahead   int
		col     int
		b       string
		n       int
		out     string
		endsCol int
	}{
		{u, 0, 0, "", 0, "", 0}, {u, 0, 0, "ab", 2, "ab", 2}, {u, 0, 3, "a\nb", 3, "a\r\nb", 1}, {u, 0, 3, "\t", 1, "\t", 8}, {without(u, api.OPOST), 0, 3, "a\nb", 3, "a\nb", 5}, {without(u, api.ECHO), 0, 0, "ab", 2, "ab", 2},
		{u, 4095, 0, "ab", 1, "a", 1}, {u, 4096, 0, "ab", 0, "", 0}, {u, 4096, 7, "ab", 0, "", 7}, {u, 4097, 7, "ab", 0, "", 7}, {u, 9000, 7, "ab", 0, "", 7}, {u, 4095, 7, "\nb", 0, "", 7}, {u, 4094, 7, "\nb", 1, "\r\n", 0}, {u, 4093, 7, "\nb", 2, "\r\nb", 1}, {u, 4093, 7, "\n\nb", 1, "\r\n", 0},
		{with(u, api.ONOCR), 4096, 0, "\r\r", 2, "", 0}, {with(u, api.ONOCR), 4096, 0, "\r\ra", 2, "", 0}, {with(u, api.ONOCR), 4097, 0, "\r", 0, "", 0},
		{u, 0, -1, "ab", 2, "ab", 2}, {u, 0, 65536, "ab", 2, "ab", 2}, {u, 0, 65535, "ab", 2, "ab", 1}, {u, 0, math.MinInt, "", 0, "", 0}, {u, 0, math.MaxInt, "", 0, "", 0}, {u, 4097, math.MaxInt, "a", 0, "", 0},
	} {
		d := ldisc.New(x.t)
		ahead := of(x.ahead)
		d.Out, d.Col = []byte(ahead), x.col
		if n := d.Write([]byte(x.b)); n != x.n || string(d.Out) != ahead+x.out || d.Col != x.endsCol {
			t.Errorf("behind %d, column %d, %q: %d, %d out, column %d, not %d, %q, %d", x.ahead, x.col, x.b, n, len(d.Out), d.Col, x.n, x.out, x.endsCol)
		}
	}
	d := ldisc.New(u)
	if n := d.Write(bytes.Repeat([]byte("\n"), 1<<20)); n != 2048 || len(d.Out) != 4096 || d.Write([]byte("a")) != 0 {
		t.Errorf("%d of many ends of lines", n)
	}
	d.Flow.Stopped = true
	d.Out = nil
	if n := d.Write([]byte("ab")); n != 2 || string(d.Out) != "ab" {
		t.Error("what is stopped isn't written")
	}
}

// P16.2: the first bytes go out, as many as are asked, and nothing where output is stopped.
func TestOutput(t *testing.T) {
	for _, x := range []struct {
		n         int
		got, left string
	}{
		{0, "", "abcd"}, {1, "a", "bcd"}, {3, "abc", "d"}, {4, "abcd", ""}, {5, "abcd", ""}, {math.MaxInt, "abcd", ""}, {-1, "", "abcd"}, {math.MinInt, "", "abcd"},
	} {
		for _, stopped := range []bool{false, true} {
			d := ldisc.New(usual())
			d.Write([]byte("abcd"))
			d.Flow.Stopped = stopped
			got := string(d.Output(x.n))
			if stopped && (got != "" || string(d.Out) != "abcd") || !stopped && (got != x.got || string(d.Out) != x.left) || d.Col != 4 {
				t.Errorf("Output of %d, stopped %t: %q, %q left", x.n, stopped, got, d.Out)
			}
		}
	}
	d := ldisc.New(usual())
	if len(d.Output(9)) != 0 {
		t.Error("of nothing something goes out")
	}
	d.Out = []byte(of(1 << 16))
	if len(d.Output(5000)) != 5000 || len(d.Out) != 1<<16-5000 {
		t.Error("of many bytes others go out")
	}
}

// P16.3: with ICANON a line is read, or a part of it, whatever time goes by.
func TestReadLines(t *testing.T) {
	d := ldisc.New(usual())
	types(d, "abc\nde\x04\x04f")
	for _, x := range []struct {
		n, waited int
		b         string
		ok        bool
		left      string
	}{
		{0, 0, "", true, "abc\n|de.|.|"}, {-1, 9, "", true, "abc\n|de.|.|"}, {math.MinInt, 0, "", true, "abc\n|de.|.|"}, {2, 0, "ab", true, "c\n|de.|.|"}, {9, math.MinInt, "c\n", true, "de.|.|"}, {1, math.MaxInt, "d", true, "e.|.|"}, {math.MaxInt, 0, "e", true, ".|"}, {9, 0, "", true, ""}, {9, 99, "", false, ""}, {0, 0, "", false, ""}, {-1, 0, "", false, ""},
	} {
		if b, ok := d.Read(x.n, x.waited); string(b) != x.b || ok != x.ok || lines(d.Lines) != x.left || string(d.Line) != "f" {
			t.Fatalf("Read of %d: %q, %t, %q left, not %q, %t, %q", x.n, b, ok, lines(d.Lines), x.b, x.ok, x.left)
		}
	}
	d = ldisc.New(usual())
	d.Raw = []byte("raw")
	if b, ok := d.Read(9, 9); len(b) != 0 || ok || string(d.Raw) != "raw" {
		t.Errorf("by lines is read %q", b)
	}
}

// P16.3: without ICANON a read is done by Min, Time, what there is, and the time that went by.
func TestReadRaw(t *testing.T) {
	for _, x := range []struct {
		min, time int
		have      string
		n         int
		idle      int
		waited    int
		b         string
		ok        bool
	}{
		{1, 0, "", 9, 99, 99, "", false}, {1, 0, "abc", 2, 0, 0, "ab", true}, {1, 0, "abc", 9, 0, 0, "abc", true}, {3, 0, "ab", 9, 99, 99, "", false}, {3, 0, "ab", 2, 0, 0, "ab", true}, {3, 0, "abc", 9, 0, 0, "abc", true},
		{3, 2, "ab", 9, 1, 99, "", false}, {3, 2, "ab", 9, 2, 0, "ab", true}, {3, 2, "", 9, 99, 99, "", false}, {0, 0, "", 9, 0, 0, "", true}, {0, 0, "abc", 2, 0, 0, "ab", true}, {0, 5, "", 9, 99, 4, "", false}, {0, 5, "", 9, 0, 5, "", true}, {0, 5, "ab", 9, 0, 0, "ab", true},
		{9, 0, "abc", 0, 0, 0, "", true}, {9, 0, "abc", -1, 0, 0, "", true}, {9, 0, "abc", math.MinInt, 0, 0, "", true}, {9, 0, "abc", math.MaxInt, 0, 0, "", false}, {1, 0, "abc", math.MaxInt, 0, 0, "abc", true}, {-1, -1, "abc", 9, -5, -5, "abc", true}, {3, math.MaxInt, "ab", 9, math.MaxInt, 0, "ab", true}, {0, 5, "", 9, 0, math.MinInt, "", false},
	} {
		d := ldisc.New(rawly())
		d.T.Min, d.T.Time, d.Raw, d.Idle = x.min, x.time, []byte(x.have), x.idle
		d.Lines = []canon.Line{{Text: []byte("line\n")}}
		b, ok := d.Read(x.n, x.waited)
		if string(b) != x.b || ok != x.ok || string(b)+string(d.Raw) != x.have || len(d.Lines) != 1 || d.Idle != x.idle {
			t.Errorf("min %d, time %d, %q, Read of %d, idle %d, waited %d: %q, %t, %q left", x.min, x.time, x.have, x.n, x.idle, x.waited, b, ok, d.Raw)
		}
	}
}

// P16.3: a read that is done may start the other end again, one that isn't tells nothing.
func TestReadMarks(t *testing.T) {
	for _, x := range []struct {
		held  bool
		waits int
		n     int
		out   string
		stays bool
	}{
		{true, 300, 43, "", true}, {true, 300, 44, "\x11", false}, {true, 300, 999, "\x11", false}, {true, 256, 0, "\x11", false}, {true, 257, 0, "", true}, {true, 257, -1, "", true}, {true, 256, math.MinInt, "\x11", false}, {true, 900, 1, "", true},
		{false, 768, 0, "\x13", true}, {false, 769, 1, "\x13", true}, {false, 768, 1, "", false}, {false, 900, 100, "\x13", true}, {false, 900, 200, "", false},
	} {
		s := with(usual(), api.IXOFF)
		byLines, byBytes := ldisc.New(s), ldisc.New(without(s, api.ICANON))
		byLines.Lines = []canon.Line{{Text: []byte(of(x.waits))}}
		byBytes.Raw = []byte(of(x.waits))
		for _, d := range []*ldisc.Disc{byLines, byBytes} {
			d.Flow.Held = x.held
			if _, ok := d.Read(x.n, 0); !ok || string(d.Out) != x.out || d.Flow.Held != x.stays {
				t.Errorf("%d wait, held %t, Read of %d: out %q, held %t, not %q, %t", x.waits, x.held, x.n, d.Out, d.Flow.Held, x.out, x.stays)
			}
		}
	}
	for _, s := range []api.Termios{usual(), rawly()} {
		d := ldisc.New(with(s, api.IXOFF))
		d.Flow.Held = true
		if _, ok := d.Read(9, 0); ok || len(d.Out) != 0 || !d.Flow.Held {
			t.Errorf("a read that isn't done: %+v", d)
		}
	}
}

// P16.4: settings that aren't right are refused, and nothing comes of it.
func TestSetWrong(t *testing.T) {
	random := rand.New(rand.NewSource(164))
	for range 3000 {
		d := anyDisc(random)
		one, two := pair(d)
		s := wrongSetting(random)
		if e := one.Set(s); e != api.ErrForm {
			t.Fatalf("Set of %v: error %d", s, e)
		}
		equal(t, d, "Set", one, two)
	}
}

// P16.4: what waits goes over from lines to bytes, and back.
func TestSet(t *testing.T) {
	u, r := usual(), rawly()
	line := func(n int) []canon.Line { return []canon.Line{{Text: []byte(of(n))}} }
	for _, x := range []struct {
		from, to  api.Termios
		d         ldisc.Disc
		lines     string
		raw, line string
		next      bool
	}{
		{u, r, ldisc.Disc{}, "", "", "", false},
		{u, r, ldisc.Disc{Lines: []canon.Line{{Text: []byte("a\n")}, {Text: []byte("b"), Eof: true}, {Eof: true}}, Line: []byte("c"), Next: true}, "", "a\nbc", "", false},
		{u, r, ldisc.Disc{Raw: []byte("raw"), Lines: line(1), Line: []byte("c")}, "", "rawxc", "", false},
		{u, r, ldisc.Disc{Lines: line(mostInput), Line: []byte("c")}, "", of(mostInput), "", false},
		{u, r, ldisc.Disc{Lines: line(mostInput - 1), Line: []byte("cd")}, "", of(mostInput-1) + "c", "", false},
		{u, r, ldisc.Disc{Raw: []byte(of(2000)), Line: []byte("cd")}, "", of(mostInput), "", false},
		{u, r, ldisc.Disc{Lines: line(2000)}, "", of(mostInput), "", false},
		{r, u, ldisc.Disc{}, "", "", "", false},
		{r, u, ldisc.Disc{Raw: []byte("a\nb")}, "a\nb.|", "", "", false},
		{r, u, ldisc.Disc{Raw: []byte("b"), Lines: line(1), Line: []byte("c"), Next: true}, "x|b.|", "", "c", true},
		{r, u, ldisc.Disc{Lines: line(1), Line: []byte("c"), Next: true}, "x|", "", "c", true},
		{r, u, ldisc.Disc{Raw: []byte(of(mostInput))}, of(mostInput) + ".|", "", "", false},
		{r, u, ldisc.Disc{Raw: []byte("b"), Lines: line(mostInput)}, of(mostInput) + "|b.|", "", "", false},
		{u, without(u, api.ECHO), ldisc.Disc{Raw: []byte("b"), Lines: line(1), Line: []byte("c"), Next: true}, "x|", "b", "c", true},
		{r, without(r, api.ECHO), ldisc.Disc{Raw: []byte("b"), Lines: line(1), Line: []byte("c"), Next: true}, "x|", "b", "c", true},
		{u, u, ldisc.Disc{Raw: []byte(of(2000)), Line: []byte(of(400))}, "", of(2000), of(400), false},
	} {
		d := own(x.d)
		d.T = x.from
		d.Out, d.Col, d.From, d.Idle, d.Flow = []byte("out"), 3, 2, 5, flow.Flow{Stopped: true, Held: true}
		e := d.Set(x.to)
		if e != api.OK || d.T != x.to || lines(d.Lines) != x.lines || string(d.Raw) != x.raw || string(d.Line) != x.line || d.Next != x.next {
			t.Errorf("of %+v: error %d, lines %q, raw %q, line %q, next %t", x.d, e, lines(d.Lines), d.Raw, d.Line, d.Next)
		}
		if string(d.Out) != "out" || d.Col != 3 || d.From != 2 || d.Idle != 5 || d.Flow != (flow.Flow{Stopped: true, Held: true}) {
			t.Errorf("of %+v something else is changed: %+v", x.d, d)
		}
	}
}

// P16.4: what is flushed is gone, the other one stays.
func TestFlush(t *testing.T) {
	all := ldisc.Disc{T: usual(), Line: []byte("l"), Next: true, Lines: []canon.Line{{Eof: true}}, Raw: []byte("r"), Out: []byte("o"), Flow: flow.Flow{Stopped: true, Held: true}, Col: 4, From: 3, Idle: 2}
	noIn := all
	noIn.Line, noIn.Next, noIn.Lines, noIn.Raw = nil, false, nil, nil
	noOut := all
	noOut.Out = nil
	nothing := noIn
	nothing.Out = nil
	for what, left := range map[int]ldisc.Disc{1: noIn, 2: noOut, 3: nothing} {
		d, _ := pair(all)
		_, want := pair(left)
		if e := d.Flush(what); e != api.OK || !same(d, want) {
			t.Errorf("Flush of %d: error %d, %+v", what, e, d)
		}
	}
	for _, what := range []int{math.MinInt, -3, -2, -1, 0, 4, 5, 6, 7, 256, 257, 259, 1<<32 + 1, math.MaxInt} {
		d, want := pair(all)
		if e := d.Flush(what); e != api.ErrArg || !same(d, want) {
			t.Errorf("Flush of %d: error %d, %+v", what, e, d)
		}
	}
}

// P16.4: a program's wishes; what the other end is told is lost where there is no room.
func TestAsk(t *testing.T) {
	for _, x := range []struct {
		t       api.Termios
		before  bool
		ahead   int
		what    int
		e       api.Errno
		out     string
		stopped bool
	}{
		{usual(), false, 0, flow.OutOff, api.OK, "", true}, {usual(), true, 0, flow.OutOn, api.OK, "", false}, {usual(), false, 0, flow.OutOn, api.OK, "", false}, {usual(), false, 0, flow.InOff, api.OK, "\x13", false}, {usual(), true, 0, flow.InOn, api.OK, "\x11", true}, {usual(), true, 0, flow.InOff, api.OK, "\x13", true},
		{char(usual(), api.VSTOP, 255), false, 0, flow.InOff, api.OK, "", false}, {usual(), false, 4095, flow.InOff, api.OK, "\x13", false}, {usual(), false, 4096, flow.InOff, api.OK, "", false}, {usual(), false, 4096, flow.InOn, api.OK, "", false},
		{usual(), true, 0, 0, api.ErrArg, "", true}, {usual(), true, 0, 5, api.ErrArg, "", true}, {usual(), false, 0, -1, api.ErrArg, "", false}, {usual(), true, 0, math.MinInt, api.ErrArg, "", true}, {usual(), true, 0, math.MaxInt, api.ErrArg, "", true},
	} {
		for _, held := range []bool{false, true} {
			d := ldisc.New(x.t)
			ahead := of(x.ahead)
			d.Flow, d.Out, d.Col = flow.Flow{Stopped: x.before, Held: held}, []byte(ahead), 5
			if e := d.Ask(x.what); e != x.e || string(d.Out) != ahead+x.out || d.Flow != (flow.Flow{Stopped: x.stopped, Held: held}) || d.Col != 5 {
				t.Errorf("Ask of %d: error %d, out %q, %+v", x.what, e, d.Out[min(len(ahead), len(d.Out)):], d.Flow)
			}
		}
	}
}

// P16.4: time goes by up to a number of ticks, and not by half.
func TestTick(t *testing.T) {
	for _, x := range []struct{ idle, n, want int }{
		{0, 0, 0}, {0, 1, 1}, {5, 7, 12}, {5, -1, 5}, {5, 0, 5}, {5, math.MinInt, 5}, {5, math.MaxInt, 5}, {0, mostIdle, mostIdle}, {0, mostIdle + 1, 0}, {1, mostIdle, 1}, {1, mostIdle - 1, mostIdle}, {mostIdle - 1, 1, mostIdle}, {mostIdle, 1, mostIdle}, {mostIdle - 1, 2, mostIdle - 1},
		{mostIdle + 5, 1, mostIdle + 5}, {math.MaxInt, 1, math.MaxInt}, {math.MaxInt, math.MaxInt, math.MaxInt}, {-5, 3, -2}, {-5, 5, 0}, {-5, mostIdle + 5, mostIdle}, {-5, mostIdle + 6, -5}, {math.MinInt, 1, math.MinInt + 1}, {math.MinInt, math.MaxInt, -1}, {math.MinInt, math.MinInt, math.MinInt}, {-1, math.MaxInt, -1},
	} {
		d := ldisc.New(usual())
		d.Idle = x.idle
		if d.Tick(x.n); d.Idle != x.want {
			t.Errorf("%d, and %d more: %d, not %d", x.idle, x.n, d.Idle, x.want)
		}
	}
}

// P16.4: what waits to be read: lines, the one that is edited, and bytes.
func TestUsed(t *testing.T) {
	d := ldisc.New(usual())
	for _, x := range []struct {
		in   string
		used int
	}{{"", 0}, {"a", 1}, {"b\n", 3}, {"\x04", 4}, {"c\x04", 6}, {"de", 8}, {"\x7f", 7}, {"\x15", 6}, {"f\x03", 0}, {"\x16", 0}, {"\x03", 1}} {
		if types(d, x.in); d.Used() != x.used {
			t.Errorf("typed %q: %d", x.in, d.Used())
		}
	}
	d.Line, d.Raw, d.Lines = []byte("abc"), []byte("de"), []canon.Line{{Text: []byte("f"), Eof: true}}
	if d.Used() != 7 {
		t.Errorf("%d", d.Used())
	}
}

// A call of a discipline that isn't there answers nothing.
func TestNil(t *testing.T) {
	var d *ldisc.Disc
	if l := d.Input('a'); len(l) != 0 {
		t.Error(l)
	}
	if n := d.Write([]byte("a")); n != 0 || d.Used() != 0 {
		t.Error(n)
	}
	if b := d.Output(9); len(b) != 0 {
		t.Error(b)
	}
	for _, n := range []int{0, 9, -1} {
		if b, ok := d.Read(n, n); len(b) != 0 || ok {
			t.Error(b, ok)
		}
	}
	d.Tick(1)
	for _, e := range []api.Errno{d.Set(usual()), d.Set(api.Termios{Min: -1}), d.Flush(ldisc.Both), d.Flush(0), d.Ask(flow.OutOff), d.Ask(0)} {
		if e != api.ErrNil {
			t.Error(e)
		}
	}
}

// P16.1 to P16.4: one call, any one, of a discipline whose fields are set to anything.
func TestAnyCall(t *testing.T) {
	random := rand.New(rand.NewSource(1601))
	for range 30000 {
		one, two := pair(anyDisc(random))
		calls(t, random, one, two)
	}
}

// bounds checks the bounds that hold from New on.
func bounds(t *testing.T, d *ldisc.Disc) {
	t.Helper()
	if len(d.Line) > longestLine || len(d.Raw) > mostInput || canon.Used(d.Lines) > mostInput+1 || len(d.Out) > mostOutput || d.Idle > mostIdle {
		t.Fatalf("line %d, raw %d, lines %d, out %d, idle %d", len(d.Line), len(d.Raw), canon.Used(d.Lines), len(d.Out), d.Idle)
	}
	if modes.Has(d.T, api.ICANON) && len(d.Raw) > 0 || !modes.Has(d.T, api.ICANON) && len(d.Lines)+len(d.Line) > 0 {
		t.Fatalf("what waits isn't of the setting: %+v", d)
	}
}

// P16.1 to P16.5: calls one behind the other, any ones, from New on, and the bounds of what waits.
func TestScripts(t *testing.T) {
	random := rand.New(rand.NewSource(1602))
	for range 300 {
		s := anySetting(random)
		one, two := ldisc.New(s), &model{T: s}
		for range 300 {
			calls(t, random, one, two)
			bounds(t, one)
		}
	}
}

// P16.5: of calls that fill it, what waits is no more than the bounds.
func TestFilled(t *testing.T) {
	random := rand.New(rand.NewSource(1603))
	for range 60 {
		s := anySetting(random)
		one, two := ldisc.New(s), &model{T: s}
		for range 3000 {
			c := anyByte(random)
			if random.Intn(3) > 0 {
				c = 'x'
			}
			one.Input(c)
			two.input(c)
			if random.Intn(200) == 0 {
				s := anySetting(random)
				one.Set(s)
				two.set(s)
			}
			if random.Intn(20) == 0 {
				b := anyBytes(random, random.Intn(300))
				one.Write(b)
				two.write(b)
			}
			bounds(t, one)
		}
		equal(t, ldisc.Disc{T: s}, "all", one, two)
	}
}

// P16.5: a text without special bytes is read line by line as it was typed.
func TestTextIsRead(t *testing.T) {
	random := rand.New(rand.NewSource(165))
	for range 500 {
		d := ldisc.New(without(usual(), []int{api.ECHO, api.OPOST, api.ECHOCTL}[:random.Intn(4)]...))
		var want, got strings.Builder
		for range 4 {
			var text strings.Builder
			for range random.Intn(250) {
				text.WriteByte(" !azAZ09~\t\x80\xc3\xff\x00\x1b"[random.Intn(15)])
			}
			want.WriteString(text.String() + "\n|")
			types(d, text.String()+[]string{"\n", "\r"}[random.Intn(2)])
		}
		got.WriteString(readAll(d))
		if got.String() != want.String() {
			t.Fatalf("%q is read, not %q", got.String(), want.String())
		}
	}
}

// P16.5: what is typed and erased, character by character, leaves nothing, and the column where it began.
func TestErasedLeavesNothing(t *testing.T) {
	random := rand.New(rand.NewSource(1651))
	for range 2000 {
		s := usual()
		for _, op := range []int{api.IUTF8, api.ECHOCTL, api.OPOST, api.PARMRK} {
			s = modes.Set(s, op, random.Intn(2) == 0)
		}
		d := ldisc.New(s)
		d.Write([]byte(of(random.Intn(20))))
		col := d.Col
		n := random.Intn(60)
		for range n {
			types(d, string([]rune{[]rune(" az~\tÄé€")[random.Intn(8)]}))
			if modes.Has(s, api.ECHOCTL) && random.Intn(4) == 0 {
				types(d, "\x01")
			}
		}
		for len(d.Line) > 0 {
			before := len(d.Line)
			if d.Input(0x7f); len(d.Line) >= before {
				t.Fatalf("%q stays", d.Line)
			}
		}
		if d.Col != col || d.Used() != 0 {
			t.Fatalf("flags %x: column %d, not %d, %d used", s.Flags, d.Col, col, d.Used())
		}
	}
}

// P16.5: what is typed without ICANON is read as layer 9 maps it.
func TestRawIsMapped(t *testing.T) {
	random := rand.New(rand.NewSource(1652))
	for range 2000 {
		s := without(anySetting(random), api.ICANON, api.ISIG, api.IXON)
		s.Min, s.Time = 1, 0
		d := ldisc.New(s)
		b := anyBytes(random, random.Intn(500))
		types(d, string(b))
		want := mapin.Map(s, b)
		if got, ok := d.Read(math.MaxInt, 0); !bytes.Equal(got, want) || ok != (len(want) > 0) {
			t.Fatalf("flags %x: typed %q: read %q, %t, not %q", s.Flags, b, got, ok, want)
		}
	}
}

// P16.5: signals come of the three characters alone.
func TestSignalsOfThree(t *testing.T) {
	random := rand.New(rand.NewSource(1653))
	for range 300 {
		s := anySetting(random)
		d := ldisc.New(s)
		for c := range 256 {
			d.Next = false
			is := modes.Is(s, api.VINTR, mapin.Strip(s, byte(c))) || modes.Is(s, api.VQUIT, mapin.Strip(s, byte(c))) || modes.Is(s, api.VSUSP, mapin.Strip(s, byte(c)))
			if l := d.Input(byte(c)); len(l) > 1 || len(l) == 1 && (!is || !modes.Has(s, api.ISIG)) {
				t.Fatalf("of %x: %v", c, l)
			}
		}
	}
}

// spoil writes into a list, its spare room included.
func spoil(b []byte) {
	b = b[:cap(b)]
	for i := range b {
		b[i] ^= 0x55
	}
}

// What is handed in is neither changed nor kept, and what is handed out isn't the discipline's any more.
func TestMemory(t *testing.T) {
	random := rand.New(rand.NewSource(166))
	for range 3000 {
		d := anyDisc(random)
		one, two := pair(d)
		room := slices.Clone(anyBytes(random, 40))
		before := slices.Clone(room)
		one.Write(room[:20])
		two.write(before[:20])
		if !bytes.Equal(room, before) {
			t.Fatal("what is written is changed")
		}
		spoil(room)
		equal(t, d, "Write", one, two)
		n := random.Intn(30)
		spoil(one.Output(n))
		two.output(n)
		b, _ := one.Read(n, 9)
		two.read(n, 9)
		spoil(b)
		equal(t, d, "Output and Read", one, two)
		c := anyByte(random)
		signals := one.Input(c)
		for i := range signals {
			signals[i] = -1
		}
		if got, want := one.Input(c), append(two.input(c), two.input(c)...); len(got) > 0 && got[len(got)-1] != want[len(want)-1] {
			t.Fatalf("signals are shared: %v", got)
		}
		equal(t, d, "Input", one, two)
	}
}

// Disciplines are apart from one another, also those that began as one's copy.
func TestApart(t *testing.T) {
	random := rand.New(rand.NewSource(167))
	for range 300 {
		s := anySetting(random)
		one := ldisc.New(s)
		types(one, "ab c\nde\x04fg")
		one.Write([]byte("some text\n"))
		copied := *one
		other, first, second := &copied, model(own(*one)), model(own(*one))
		for range 40 {
			calls(t, random, one, &first)
			calls(t, random, other, &second)
			equal(t, copied, "the other one's", one, &first)
		}
	}
}

// Many bytes, typed, read and written, are as few.
func TestMany(t *testing.T) {
	d := ldisc.New(usual())
	var read, out strings.Builder
	for i := range 20000 {
		types(d, "line\n")
		d.Write([]byte("text\n"))
		b, ok := d.Read(99, 0)
		read.Write(b)
		out.Write(d.Output(99))
		if !ok || d.Used() != 0 || len(d.Out) != 0 {
			t.Fatalf("behind %d: %+v", i, d)
		}
	}
	if read.String() != strings.Repeat("line\n", 20000) || out.String() != strings.Repeat("line\r\ntext\r\n", 20000) {
		t.Error("something else is read, or goes out")
	}
}
