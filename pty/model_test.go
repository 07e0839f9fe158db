package pty_test

import (
	"bytes"
	"math"
	"math/rand"
	"slices"
	"testing"

	"parlour/api"
	"parlour/canon"
	"parlour/ldisc"
	"parlour/modes"
	"parlour/pty"
)

// model is a terminal, sentence by sentence as the document says it, over a discipline.
type model pty.Pty

// masterWrite is MasterWrite.
func (m *model) masterWrite(b []byte) (int, []pty.Event) {
	if m.Hung {
		return 0, nil
	}
	n := 0
	var l []pty.Event
	for n < len(b) && m.Disc.Used() < 4096 {
		for _, s := range m.Disc.Input(b[n]) {
			if m.Group != 0 {
				l = append(l, pty.Event{Group: m.Group, Sig: s})
			}
		}
		n++
	}
	return n, l
}

// masterRead is MasterRead.
func (m *model) masterRead(n int) ([]byte, api.Errno) {
	if m.Hung {
		return nil, 11
	}
	if b := m.Disc.Output(n); len(b) > 0 {
		return b, 0
	}
	if m.Slaves <= 0 && len(m.Disc.Out) == 0 {
		return nil, 11
	}
	if n > 0 {
		return nil, 10
	}
	return nil, 0
}

// open is Open.
func (m *model) open() api.Errno {
	if m.Hung {
		return 11
	}
	m.Slaves++
	return 0
}

// close is Close.
func (m *model) close() api.Errno {
	if m.Slaves <= 0 {
		return 9
	}
	m.Slaves--
	return 0
}

// slaveRead is SlaveRead.
func (m *model) slaveRead(n, waited int) ([]byte, api.Errno) {
	if m.Hung {
		return nil, 0
	}
	b, ok := m.Disc.Read(n, waited)
	if !ok {
		return nil, 10
	}
	return b, 0
}

// slaveWrite is SlaveWrite.
func (m *model) slaveWrite(b []byte) (int, api.Errno) {
	if m.Hung {
		return 0, 11
	}
	n := m.Disc.Write(b)
	if n == 0 && len(b) > 0 {
		return 0, 10
	}
	return n, 0
}

// setAttr is SetAttr.
func (m *model) setAttr(when int, t api.Termios) api.Errno {
	if when < 1 || when > 3 {
		return 2
	}
	if m.Hung {
		return 11
	}
	if !modes.Right(t) {
		return 4
	}
	if when > 1 && len(m.Disc.Out) > 0 {
		return 10
	}
	if when == 3 {
		m.Disc.Line, m.Disc.Lines, m.Disc.Raw, m.Disc.Next = nil, nil, nil, false
	}
	return m.Disc.Set(t)
}

// setSize is SetSize.
func (m *model) setSize(s api.Size) []pty.Event {
	if m.Size == s {
		return nil
	}
	m.Size = s
	if m.Group == 0 {
		return nil
	}
	return []pty.Event{{Group: m.Group, Sig: 28}}
}

// bind is Bind.
func (m *model) bind(session, group int) api.Errno {
	if session <= 0 || group <= 0 {
		return 2
	}
	if m.Session != 0 {
		return 12
	}
	m.Session, m.Group = session, group
	return 0
}

// setGroup is SetGroup.
func (m *model) setGroup(group int) api.Errno {
	if group <= 0 {
		return 2
	}
	if m.Session == 0 {
		return 9
	}
	m.Group = group
	return 0
}

// hangup is Hangup.
func (m *model) hangup() []pty.Event {
	if m.Hung {
		return nil
	}
	m.Hung = true
	m.Disc.Line, m.Disc.Lines, m.Disc.Raw, m.Disc.Out, m.Disc.Next = nil, nil, nil, nil, false
	if m.Group == 0 {
		return nil
	}
	return []pty.Event{{Group: m.Group, Sig: 1}, {Group: m.Group, Sig: 18}}
}

// sameLines says whether lines are the same ones.
func sameLines(a, b []canon.Line) bool {
	return slices.EqualFunc(a, b, func(x, y canon.Line) bool { return bytes.Equal(x.Text, y.Text) && x.Eof == y.Eof })
}

// sameDisc says whether two disciplines are the same.
func sameDisc(a, b *ldisc.Disc) bool {
	if a == nil || b == nil {
		return a == b
	}
	return a.T == b.T && bytes.Equal(a.Line, b.Line) && a.Next == b.Next && sameLines(a.Lines, b.Lines) && bytes.Equal(a.Raw, b.Raw) &&
		a.Flow == b.Flow && bytes.Equal(a.Out, b.Out) && a.Col == b.Col && a.From == b.From && a.Idle == b.Idle
}

// same says whether a terminal is as the model.
func same(p *pty.Pty, m *model) bool {
	return sameDisc(p.Disc, m.Disc) && p.Size == m.Size && p.Session == m.Session && p.Group == m.Group && p.Slaves == m.Slaves && p.Hung == m.Hung
}

// own is a terminal's copy, its discipline and all lists in memory of their own.
func own(p pty.Pty) pty.Pty {
	if p.Disc == nil {
		return p
	}
	d := *p.Disc
	d.Line, d.Raw, d.Out, d.Lines = slices.Clone(d.Line), slices.Clone(d.Raw), slices.Clone(d.Out), slices.Clone(d.Lines)
	for i := range d.Lines {
		d.Lines[i].Text = slices.Clone(d.Lines[i].Text)
	}
	p.Disc = &d
	return p
}

// pair is a terminal and the model, which both are as p; the model's discipline is there from the beginning.
func pair(p pty.Pty) (*pty.Pty, *model) {
	one, two := own(p), model(own(p))
	if two.Disc == nil {
		two.Disc = &ldisc.Disc{}
	}
	return &one, &two
}

// show is a terminal in words, long lists cut.
func show(p pty.Pty) (pty.Pty, ldisc.Disc) {
	p = own(p)
	d := ldisc.Disc{}
	if p.Disc != nil {
		d = *p.Disc
	}
	d.Line, d.Raw, d.Out = d.Line[:min(len(d.Line), 20)], d.Raw[:min(len(d.Raw), 20)], d.Out[:min(len(d.Out), 20)]
	return p, d
}

// equal checks that one call left a terminal as the model.
func equal(t *testing.T, call string, before pty.Pty, p *pty.Pty, m *model) {
	t.Helper()
	if !same(p, m) {
		was, d := show(before)
		is, e := show(*p)
		want, f := show(pty.Pty(*m))
		t.Fatalf("%s of %+v %+v:\n%+v %+v, not\n%+v %+v", call, was, d, is, e, want, f)
	}
}

// anyBytes is so many bytes, those that mean something often.
func anyBytes(random *rand.Rand, n int) []byte {
	const meaning = "\x03\x1c\x1a\x7f\x15\x04\x11\x13\x12\x17\x16\n\r\t ab\xff"
	b := make([]byte, n)
	for i := range b {
		b[i] = byte(random.Intn(256))
		if random.Intn(4) > 0 {
			b[i] = meaning[random.Intn(len(meaning))]
		}
	}
	return b
}

// anySetting is a setting that is right, by lines or not.
func anySetting(random *rand.Rand) api.Termios {
	t := modes.Default()
	for op := range 94 {
		if random.Intn(6) == 0 {
			t = modes.Set(t, op, random.Intn(2) == 0)
		}
	}
	t = modes.Set(t, api.ICANON, random.Intn(3) > 0)
	t.Min, t.Time = random.Intn(3), random.Intn(3)
	return t
}

// wrongSetting is a setting that isn't right.
func wrongSetting(random *rand.Rand) api.Termios {
	t := anySetting(random)
	switch random.Intn(4) {
	case 0:
		t.Chars[0] = 1
	case 1:
		t.Min = []int{-1, 256, math.MinInt, math.MaxInt}[random.Intn(4)]
	case 2:
		t.Time = []int{-1, 256, math.MinInt, math.MaxInt}[random.Intn(4)]
	default:
		t.Flags |= 1 << (89 - 30)
	}
	return t
}

// anyNumber is a number, a small one often, and those at the ends.
func anyNumber(random *rand.Rand) int {
	if random.Intn(2) == 0 {
		return random.Intn(7) - 1
	}
	return []int{0, 1, 2, 3, 9, 99, 4096, -1, -2, math.MinInt, math.MaxInt}[random.Intn(11)]
}

// anySize is one of a few sizes.
func anySize(random *rand.Rand) api.Size {
	n := func() uint32 { return uint32(random.Intn(3) - 1) }
	return api.Size{Cols: n(), Rows: n(), Width: n() & 1, Height: n() & 1}
}

// anyPty is a terminal whose fields, and whose discipline's, are set to anything; or it has none.
func anyPty(random *rand.Rand) pty.Pty {
	long := func(most int) []byte {
		return anyBytes(random, []int{0, random.Intn(5), most - 3 + random.Intn(6), random.Intn(most)}[random.Intn(4)])
	}
	p := pty.Pty{Size: anySize(random), Session: anyNumber(random), Group: anyNumber(random), Slaves: random.Intn(4) - 1, Hung: random.Intn(5) == 0}
	if random.Intn(8) == 0 {
		return p
	}
	d := ldisc.New(anySetting(random))
	d.Line, d.Out, d.Next = long(254), long(4096), random.Intn(4) == 0
	if d.Raw = long(1024); random.Intn(3) == 0 {
		d.Raw = long(4096)
	}
	for range random.Intn(3) {
		d.Lines = append(d.Lines, canon.Line{Text: long(20), Eof: random.Intn(2) == 0})
	}
	d.Flow.Stopped, d.Flow.Held = random.Intn(3) == 0, random.Intn(3) == 0
	d.Col, d.From, d.Idle = random.Intn(30), random.Intn(30), random.Intn(5)
	p.Disc = d
	return p
}

// calls makes one call, any one, of a terminal and of the model, and checks that both answer the same and are the same then.
func calls(t *testing.T, random *rand.Rand, p *pty.Pty, m *model) {
	t.Helper()
	before := own(*p)
	call, answered := "", true
	n, k := anyNumber(random), anyNumber(random)
	b := anyBytes(random, random.Intn(30))
	switch random.Intn(14) {
	default:
		call = "MasterWrite"
		i, l := p.MasterWrite(b)
		j, w := m.masterWrite(b)
		answered = i == j && slices.Equal(l, w)
	case 0, 1:
		call = "MasterRead"
		got, e := p.MasterRead(n)
		want, f := m.masterRead(n)
		answered = bytes.Equal(got, want) && e == f
	case 2:
		call = "Open"
		answered = p.Open() == m.open()
	case 3:
		call = "Close"
		answered = p.Close() == m.close()
	case 4, 5:
		call = "SlaveRead"
		got, e := p.SlaveRead(n, k)
		want, f := m.slaveRead(n, k)
		answered = bytes.Equal(got, want) && e == f
	case 6:
		call = "SlaveWrite"
		i, e := p.SlaveWrite(b)
		j, f := m.slaveWrite(b)
		answered = i == j && e == f
	case 7:
		call = "SetAttr"
		s := anySetting(random)
		if random.Intn(4) == 0 {
			s = wrongSetting(random)
		}
		answered = p.SetAttr(n, s) == m.setAttr(n, s)
	case 8:
		call = "SetSize"
		s := anySize(random)
		answered = slices.Equal(p.SetSize(s), m.setSize(s))
	case 9:
		call = "Bind"
		answered = p.Bind(n, k) == m.bind(n, k)
	case 10:
		call = "SetGroup"
		answered = p.SetGroup(n) == m.setGroup(n)
	case 11:
		if random.Intn(10) > 0 {
			return // hung terminals are all alike
		}
		call = "Hangup"
		answered = slices.Equal(p.Hangup(), m.hangup())
	}
	if !answered {
		was, d := show(before)
		t.Fatalf("%s of %+v %+v answers something else", call, was, d)
	}
	equal(t, call, before, p, m)
}
