package ldisc_test

import (
	"bytes"
	"math"
	"math/rand"
	"slices"
	"testing"

	"parlour/api"
	"parlour/canon"
	"parlour/echo"
	"parlour/editor"
	"parlour/flow"
	"parlour/ldisc"
	"parlour/mapin"
	"parlour/modes"
	"parlour/post"
	"parlour/raw"
)

// The numbers of the document.
const (
	longestLine = 254
	mostInput   = 1024
	mostOutput  = 4096
	mostIdle    = 1048576
)

// model is a discipline, step by step as the document says it.
type model ldisc.Disc

// on says whether a flag is on.
func (m *model) on(op int) bool { return m.T.Flags>>(op-30)&1 == 1 }

// is says whether a byte is a character.
func (m *model) is(op int, c byte) bool { return c != 255 && m.T.Chars[op] == c }

// used is how many bytes wait.
func (m *model) used() int {
	n := len(m.Line) + len(m.Raw)
	for _, x := range m.Lines {
		n += len(x.Text)
		if x.Eof {
			n++
		}
	}
	return n
}

// putOut puts bytes out; false: they are lost.
func (m *model) putOut(b []byte) bool {
	longer := slices.Concat(m.Out, b)
	if len(longer) > mostOutput {
		return false
	}
	m.Out = longer
	return true
}

// shown shows bytes.
func (m *model) shown(b []byte) {
	out, col := post.Bytes(m.T, m.Col, b)
	if m.putOut(out) {
		m.Col = col
	}
}

// echoed echoes bytes.
func (m *model) echoed(b []byte) {
	if m.on(api.ECHO) {
		m.shown(b)
	}
}

// beep beeps.
func (m *model) beep() {
	if m.on(api.IMAXBEL) {
		m.putOut([]byte{7})
	}
}

// taken takes a byte, of which bytes b stand in the line.
func (m *model) taken(c byte, b []byte) {
	if m.on(api.ICANON) {
		if len(m.Line)+len(b) > longestLine {
			m.beep()
			return
		}
		if len(m.Line) == 0 {
			m.From = m.Col
		}
		m.Line = slices.Concat(m.Line, b)
	} else {
		if len(m.Raw)+len(b) > mostInput {
			m.beep()
			return
		}
		m.Raw = slices.Concat(m.Raw, b)
	}
	m.echoed(echo.Show(m.T, c))
}

// ended ends the line; false: there is no room.
func (m *model) ended(e []byte, eof bool) bool {
	x := canon.Line{Text: slices.Concat(m.Line, e), Eof: eof}
	longer := model{Lines: slices.Concat(m.Lines, []canon.Line{x})}
	if longer.used() > mostInput {
		m.beep()
		return false
	}
	m.Lines, m.Line = longer.Lines, nil
	return true
}

// marked is what stands behind each byte that is typed and each read that is done.
func (m *model) marked() {
	f, told := flow.Mark(m.T, m.Flow, m.used(), 256, 768)
	m.Flow = f
	m.putOut(told)
}

// input is Input.
func (m *model) input(c byte) []int {
	m.Idle = 0
	signals := m.steps(mapin.Strip(m.T, c))
	m.marked()
	return signals
}

// steps is the first five steps of the twelve.
func (m *model) steps(c byte) []int {
	if m.Next {
		m.Next = false
		m.taken(c, []byte{c})
		return nil
	}
	f, used := flow.Typed(m.T, m.Flow, c)
	m.Flow = f
	if used {
		return nil
	}
	if m.on(api.ISIG) && (m.is(api.VINTR, c) || m.is(api.VQUIT, c) || m.is(api.VSUSP, c)) {
		return []int{m.signal(c)}
	}
	turned, ok := mapin.Turn(m.T, c)
	if !ok {
		return nil
	}
	if !m.on(api.ICANON) {
		m.taken(turned, mapin.Mark(m.T, turned))
		return nil
	}
	m.lineSteps(turned)
	return nil
}

// signal is step 3.
func (m *model) signal(c byte) int {
	signal := 20
	if m.is(api.VQUIT, c) {
		signal = 3
	}
	if m.is(api.VINTR, c) {
		signal = 2
	}
	if !m.on(api.NOFLSH) {
		m.Line, m.Lines, m.Raw = nil, nil, nil
		if signal != 20 {
			m.Out = nil
		}
	}
	if m.on(api.IXON) {
		m.Flow.Stopped = false
	}
	m.echoed(echo.Show(m.T, c))
	return signal
}

// lineSteps is steps 6 to 12.
func (m *model) lineSteps(c byte) {
	more := m.on(api.IEXTEN)
	if more && m.is(api.VLNEXT, c) {
		m.Next = true
		if m.on(api.ECHOCTL) {
			m.echoed([]byte{0x5e, 0x08})
		}
	} else if m.is(api.VERASE, c) {
		rest, gone := editor.Erase(m.T, m.Line)
		m.erased(c, rest, gone)
	} else if more && m.is(api.VWERASE, c) {
		rest, gone := editor.Word(m.T, m.Line)
		m.erased(c, rest, gone)
	} else if m.is(api.VKILL, c) {
		line := m.Line
		m.Line = nil
		if m.on(api.ECHOE) && m.on(api.ECHOKE) {
			m.echoed(echo.Rub(m.T, m.From, nil, line))
		} else {
			shown := echo.Show(m.T, c)
			if m.on(api.ECHOK) {
				shown = slices.Concat(shown, []byte{10})
			}
			m.echoed(shown)
		}
	} else if more && m.is(api.VREPRINT, c) {
		m.echoed(slices.Concat(echo.Show(m.T, c), []byte{10}))
		m.From = m.Col
		m.echoed(echo.Line(m.T, m.Line))
	} else if m.is(api.VEOF, c) {
		m.ended(nil, true)
	} else if c == 10 || m.is(api.VEOL, c) || more && m.is(api.VEOL2, c) {
		room := m.ended([]byte{c}, false)
		if room && c == 10 && (m.on(api.ECHO) || m.on(api.ECHONL)) {
			m.shown([]byte{10})
		}
		if room && c != 10 {
			m.echoed(echo.Show(m.T, c))
		}
	} else {
		m.taken(c, mapin.Mark(m.T, c))
	}
}

// erased is step 7, from what is gone on.
func (m *model) erased(c byte, rest, gone []byte) {
	if len(gone) > 0 {
		m.Line = rest
		if m.on(api.ECHOE) {
			m.echoed(echo.Rub(m.T, m.From, rest, gone))
		} else {
			m.echoed(echo.Show(m.T, c))
		}
	}
}

// write is Write.
func (m *model) write(b []byte) int {
	n := post.Fit(m.T, m.Col, b, mostOutput-len(m.Out))
	out, col := post.Bytes(m.T, m.Col, b[:n])
	m.Out, m.Col = slices.Concat(m.Out, out), col
	return n
}

// output is Output.
func (m *model) output(n int) []byte {
	if m.Flow.Stopped || n < 0 {
		return nil
	}
	n = min(n, len(m.Out))
	b := slices.Clone(m.Out[:n])
	m.Out = slices.Clone(m.Out[n:])
	return b
}

// read is Read.
func (m *model) read(n, waited int) ([]byte, bool) {
	if m.on(api.ICANON) {
		b, left, ok := canon.Read(m.Lines, n)
		if !ok {
			return nil, false
		}
		m.Lines = left
		m.marked()
		return b, true
	}
	n, ok := raw.Ready(m.T.Min, m.T.Time, len(m.Raw), n, m.Idle, waited)
	if !ok {
		return nil, false
	}
	b := slices.Clone(m.Raw[:n])
	m.Raw = slices.Clone(m.Raw[n:])
	m.marked()
	return b, true
}

// tick is Tick.
func (m *model) tick(n int) {
	if n > 0 && m.Idle <= mostIdle && uint64(n) <= uint64(mostIdle)-uint64(m.Idle) {
		m.Idle += n
	}
}

// set is Set.
func (m *model) set(t api.Termios) api.Errno {
	if !modes.Right(t) {
		return api.ErrForm
	}
	is := model{T: t}
	if m.on(api.ICANON) && !is.on(api.ICANON) {
		m.Raw = slices.Concat(m.Raw, canon.Flat(m.Lines), m.Line)
		if len(m.Raw) > mostInput {
			m.Raw = m.Raw[:mostInput]
		}
		m.Lines, m.Line, m.Next = nil, nil, false
	}
	if !m.on(api.ICANON) && is.on(api.ICANON) && len(m.Raw) > 0 {
		m.Lines = slices.Concat(m.Lines, []canon.Line{{Text: m.Raw, Eof: true}})
		m.Raw = nil
	}
	m.T = t
	return api.OK
}

// flush is Flush.
func (m *model) flush(what int) api.Errno {
	if what != 1 && what != 2 && what != 3 {
		return api.ErrArg
	}
	if what != 2 {
		m.Line, m.Lines, m.Raw, m.Next = nil, nil, nil, false
	}
	if what != 1 {
		m.Out = nil
	}
	return api.OK
}

// ask is Ask.
func (m *model) ask(what int) api.Errno {
	f, told, e := flow.Ask(m.T, m.Flow, what)
	if e == api.OK {
		m.Flow = f
		m.putOut(told)
	}
	return e
}

// sameLines says whether lines are the same ones.
func sameLines(a, b []canon.Line) bool {
	return slices.EqualFunc(a, b, func(x, y canon.Line) bool { return bytes.Equal(x.Text, y.Text) && x.Eof == y.Eof })
}

// same says whether a discipline is as the model.
func same(d *ldisc.Disc, m *model) bool {
	return d.T == m.T && bytes.Equal(d.Line, m.Line) && d.Next == m.Next && sameLines(d.Lines, m.Lines) && bytes.Equal(d.Raw, m.Raw) &&
		d.Flow == m.Flow && bytes.Equal(d.Out, m.Out) && d.Col == m.Col && d.From == m.From && d.Idle == m.Idle
}

// own is a discipline's copy, all lists in memory of their own.
func own(d ldisc.Disc) ldisc.Disc {
	d.Line, d.Raw, d.Out = slices.Clone(d.Line), slices.Clone(d.Raw), slices.Clone(d.Out)
	d.Lines = slices.Clone(d.Lines)
	for i := range d.Lines {
		d.Lines[i].Text = slices.Clone(d.Lines[i].Text)
	}
	return d
}

// pair is a discipline and the model, which both are as d.
func pair(d ldisc.Disc) (*ldisc.Disc, *model) {
	one, two := own(d), model(own(d))
	return &one, &two
}

// meaning is the bytes that mean something by default, or anywhere.
const meaning = "\x03\x1c\x7f\x15\x04\x11\x13\x1a\x12\x17\x16\x0f\n\r\x07\x08\t ab\xff\xfe\xc3\xa9\x00\x83\x8d\xfc"

// anyByte is a byte, one that means something often.
func anyByte(random *rand.Rand) byte {
	if random.Intn(4) > 0 {
		return meaning[random.Intn(len(meaning))]
	}
	return byte(random.Intn(256))
}

// anyBytes is so many bytes.
func anyBytes(random *rand.Rand, n int) []byte {
	b := make([]byte, n)
	for i := range b {
		b[i] = anyByte(random)
	}
	return b
}

// anySetting is a setting that is right: one near the default, or any one, characters that are the same among them.
func anySetting(random *rand.Rand) api.Termios {
	t := modes.Default()
	for op := range 94 {
		if random.Intn(6) == 0 {
			t = modes.Set(t, op, random.Intn(2) == 0)
		}
	}
	if random.Intn(2) == 0 {
		return t
	}
	for op := 1; op <= 18; op++ {
		if random.Intn(3) == 0 {
			t.Chars[op] = anyByte(random)
		}
	}
	for op := range 94 {
		t = modes.Set(t, op, random.Intn(2) == 0)
	}
	t.Min, t.Time = random.Intn(4), random.Intn(4)
	return t
}

// wrongSetting is a setting that isn't right.
func wrongSetting(random *rand.Rand) api.Termios {
	t := anySetting(random)
	switch random.Intn(5) {
	case 0:
		t.Chars[0] = 1
	case 1:
		t.Min = []int{-1, 256, math.MinInt, math.MaxInt}[random.Intn(4)]
	case 2:
		t.Time = []int{-1, 256, math.MinInt, math.MaxInt}[random.Intn(4)]
	case 3:
		t.Flags |= 1 << (89 - 30)
	default:
		t.Flags |= 1 << (43 - 30)
	}
	return t
}

// anyNumber is a number, those around what means something often, and those at the ends.
func anyNumber(random *rand.Rand) int {
	l := []int{0, 1, 2, 3, 4, 5, 9, 99, 255, 256, 4096, mostIdle - 1, mostIdle, mostIdle + 1, 65535, 65536, -1, -2, math.MinInt, math.MaxInt, math.MaxInt - 5}
	if random.Intn(2) == 0 {
		return random.Intn(12)
	}
	return l[random.Intn(len(l))]
}

// anyLines is lines that wait, most of a few bytes, of so many bytes at most.
func anyLines(random *rand.Rand, most int) []canon.Line {
	var l []canon.Line
	for range random.Intn(5) {
		n := random.Intn(4)
		if random.Intn(3) == 0 {
			n = random.Intn(most/4 + 1)
		}
		l = append(l, canon.Line{Text: anyBytes(random, n), Eof: random.Intn(2) == 0})
	}
	return l
}

// anyDisc is a discipline whose fields are set to anything.
func anyDisc(random *rand.Rand) ldisc.Disc {
	size := func(most int) int {
		return []int{0, random.Intn(5), most - 4 + random.Intn(7), random.Intn(most)}[random.Intn(4)]
	}
	d := ldisc.Disc{T: anySetting(random), Line: anyBytes(random, size(longestLine)), Next: random.Intn(4) == 0, Lines: anyLines(random, mostInput), Raw: anyBytes(random, size(mostInput)), Out: anyBytes(random, size(mostOutput))}
	if random.Intn(4) == 0 {
		d.T = wrongSetting(random)
	}
	d.Flow = flow.Flow{Stopped: random.Intn(2) == 0, Held: random.Intn(2) == 0}
	d.Col, d.From, d.Idle = random.Intn(30), random.Intn(30), random.Intn(9)
	if random.Intn(4) == 0 {
		d.Col, d.From, d.Idle = anyNumber(random), anyNumber(random), anyNumber(random)
	}
	return d
}

// equal checks that one call left a discipline as the model.
func equal(t *testing.T, before ldisc.Disc, call string, d *ldisc.Disc, m *model) {
	t.Helper()
	if !same(d, m) {
		t.Fatalf("%s of %+v:\n%+v, not\n%+v", call, before, *d, ldisc.Disc(*m))
	}
}

// calls makes one call, any one, of a discipline and of the model, and checks that both answer the same and are the same then.
func calls(t *testing.T, random *rand.Rand, d *ldisc.Disc, m *model) {
	t.Helper()
	before := own(*d)
	n, waited := anyNumber(random), anyNumber(random)
	call, answered := "", true
	switch random.Intn(16) {
	default:
		call = "Input"
		c := anyByte(random)
		answered = slices.Equal(d.Input(c), m.input(c))
	case 0:
		call = "Write"
		b := anyBytes(random, random.Intn(40))
		answered = d.Write(b) == m.write(b)
	case 1:
		call = "Output"
		answered = bytes.Equal(d.Output(n), m.output(n))
	case 2, 3:
		call = "Read"
		got, ok := d.Read(n, waited)
		want, done := m.read(n, waited)
		answered = bytes.Equal(got, want) && ok == done
	case 4:
		call = "Tick"
		d.Tick(n)
		m.tick(n)
	case 5:
		call = "Set"
		s := anySetting(random)
		if random.Intn(4) == 0 {
			s = wrongSetting(random)
		}
		answered = d.Set(s) == m.set(s)
	case 6:
		call = "Flush"
		answered = d.Flush(n) == m.flush(n)
	case 7:
		call = "Ask"
		answered = d.Ask(n) == m.ask(n)
	}
	if !answered || d.Used() != m.used() {
		t.Fatalf("%s of %+v answers something else", call, before)
	}
	equal(t, before, call, d, m)
}
