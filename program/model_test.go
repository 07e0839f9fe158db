package program_test

import (
	"fmt"
	"math"
	"math/rand"
	"regexp"
	"slices"
	"strconv"
	"strings"
	"testing"

	"parlour/api"
	"parlour/program"
)

// span is the numbers from one to another.
type span [2]int

// kind is a kind of operation as the document says it: how many numbers it has, whether it has a text, and what the numbers may be.
type kind struct {
	kind    int
	word    string
	numbers int
	text    bool
	later   bool
	a, b    []span
}

// kinds is the document's table.
var (
	signals = []span{{1, 15}, {17, 22}, {28, 28}}
	but     = []span{{1, 8}, {10, 15}, {17, 18}, {20, 22}, {28, 28}}
	flags   = []span{{30, 42}, {50, 62}, {70, 75}, {90, 93}}
	kinds   = []kind{
		{kind: 1, word: "exit", numbers: 1, a: []span{{0, 255}}},
		{kind: 2, word: "out", text: true},
		{kind: 3, word: "err", text: true},
		{kind: 4, word: "in", numbers: 1, a: []span{{1, 1024}}},
		{kind: 5, word: "fork", numbers: 1, later: true},
		{kind: 6, word: "exec", numbers: 1, later: true},
		{kind: 7, word: "wait", numbers: 1, a: []span{{0, 3}}},
		{kind: 8, word: "kill", numbers: 2, a: []span{{0, 4}}, b: signals},
		{kind: 9, word: "group", numbers: 1, a: []span{{0, 2}}},
		{kind: 10, word: "session"},
		{kind: 11, word: "front", numbers: 1, a: []span{{0, 1}}},
		{kind: 12, word: "act", numbers: 2, a: but, b: []span{{0, 2}}},
		{kind: 13, word: "mask", numbers: 2, a: signals, b: []span{{0, 1}}},
		{kind: 14, word: "sleep", numbers: 1, a: []span{{0, 1000}}},
		{kind: 15, word: "mode", numbers: 2, a: flags, b: []span{{0, 1}}},
		{kind: 16, word: "copy"},
	}
)

// in says whether a number is in one of some spans.
func in(n int, l []span) bool {
	return slices.ContainsFunc(l, func(s span) bool { return n >= s[0] && n <= s[1] })
}

// rightOf is Right as the document says it.
func rightOf(o program.Op, at, all int) bool {
	for _, k := range kinds {
		if k.kind != o.Kind {
			continue
		}
		a, b := o.A == 0, o.B == 0
		if k.later {
			a = o.A > at && o.A < all
		} else if k.numbers > 0 {
			a = in(o.A, k.a)
		}
		if k.numbers > 1 {
			b = in(o.B, k.b)
		}
		return a && b && (o.Text == "" || k.text && len(o.Text) <= 1024)
	}
	return false
}

var nameForm = regexp.MustCompile(`^[a-z0-9]{1,64}$`)

// checkOf is Check as the document says it.
func checkOf(l []program.Prog) api.Errno {
	if len(l) == 0 || len(l) > 32 {
		return api.ErrRange
	}
	names := map[string]int{}
	for i, p := range l {
		if !nameForm.MatchString(p.Name) || strings.Contains(p.Name, "\n") {
			return api.ErrForm
		}
		if len(p.Ops) > 64 {
			return api.ErrFull
		}
		for _, o := range p.Ops {
			if !rightOf(o, i, len(l)) {
				return api.ErrArg
			}
		}
		names[p.Name]++
	}
	if len(names) < len(l) {
		return api.ErrForm
	}
	return api.OK
}

// written is a text as it is written.
func written(text string) string {
	var s strings.Builder
	for i := range len(text) {
		if c := text[i]; c < 33 || c > 126 || c == '\\' {
			fmt.Fprintf(&s, "\\%02x", c)
		} else {
			s.WriteByte(c)
		}
	}
	return s.String()
}

// printOf is Print as the document says it, of programs that are right.
func printOf(l []program.Prog) string {
	var s strings.Builder
	for _, p := range l {
		fmt.Fprintf(&s, "prog %s\n", p.Name)
		for _, o := range p.Ops {
			k := kinds[o.Kind-1]
			s.WriteString(k.word)
			if k.text {
				s.WriteString(" " + written(o.Text))
			}
			if k.numbers > 0 {
				fmt.Fprintf(&s, " %d", o.A)
			}
			if k.numbers > 1 {
				fmt.Fprintf(&s, " %d", o.B)
			}
			s.WriteString("\n")
		}
	}
	return s.String()
}

// The forms of lines, without the byte 10 at their ends.
var (
	progForm    = regexp.MustCompile(`\Aprog ([!-~]*)\z`)
	textForm    = regexp.MustCompile(`\A(out|err) ((?:[!-\[\]-~]|\\(?:[01][0-9a-f]|20|5c|7f|[89a-f][0-9a-f]))*)\z`)
	nothingForm = regexp.MustCompile(`\A(session|copy)\z`)
	oneForm     = regexp.MustCompile(`\A(exit|in|fork|exec|wait|group|front|sleep) (0|[1-9][0-9]{0,5})\z`)
	twoForm     = regexp.MustCompile(`\A(kill|act|mask|mode) (0|[1-9][0-9]{0,5}) (0|[1-9][0-9]{0,5})\z`)
	digitsForm  = regexp.MustCompile(`\\[0-9a-f]{2}`)
)

// opOf is the operation that a line says.
func opOf(line string) (program.Op, bool) {
	for _, form := range []*regexp.Regexp{textForm, nothingForm, oneForm, twoForm} {
		parts := form.FindStringSubmatch(line)
		if parts == nil {
			continue
		}
		i := slices.IndexFunc(kinds, func(k kind) bool { return k.word == parts[1] })
		o := program.Op{Kind: i + 1}
		if form == textForm {
			o.Text = digitsForm.ReplaceAllStringFunc(parts[2], func(digits string) string {
				c, _ := strconv.ParseUint(digits[1:], 16, 8)
				return string([]byte{byte(c)})
			})
			return o, true
		}
		for i, at := range []*int{&o.A, &o.B} {
			if len(parts) > i+2 {
				*at, _ = strconv.Atoi(parts[i+2])
			}
		}
		return o, true
	}
	return program.Op{}, false
}

// parseOf is Parse as the document says it.
func parseOf(text string) ([]program.Prog, api.Errno) {
	if len(text) > 262144 {
		return nil, api.ErrFull
	}
	lines := strings.Split(text, "\n")
	if lines[len(lines)-1] != "" {
		return nil, api.ErrForm
	}
	var l []program.Prog
	for _, line := range lines[:len(lines)-1] {
		if parts := progForm.FindStringSubmatch(line); parts != nil {
			l = append(l, program.Prog{Name: parts[1]})
			continue
		}
		o, ok := opOf(line)
		if !ok || len(l) == 0 {
			return nil, api.ErrForm
		}
		l[len(l)-1].Ops = append(l[len(l)-1].Ops, o)
	}
	if e := checkOf(l); e != api.OK {
		return nil, e
	}
	return l, api.OK
}

// maker makes programs, each number from the one ahead of it, so that a test is the same each time.
type maker struct{ *rand.Rand }

func newMaker(seed int64) maker { return maker{rand.New(rand.NewSource(seed))} }

// of is a number of one of some spans.
func (m maker) of(l []span) int {
	s := l[m.Intn(len(l))]
	return s[0] + m.Intn(s[1]-s[0]+1)
}

func (m maker) bytes(most int) string {
	b := make([]byte, m.Intn(most+1))
	for i := range b {
		b[i] = byte(m.Intn(256))
	}
	return string(b)
}

// op is a right operation of the program number at of all.
func (m maker) op(at, all int) program.Op {
	k := kinds[m.Intn(16)]
	if k.later && at == all-1 {
		k = kinds[0]
	}
	o := program.Op{Kind: k.kind}
	switch {
	case k.later:
		o.A = at + 1 + m.Intn(all-at-1)
	case k.text:
		o.Text = m.bytes(20)
	case k.numbers > 0:
		o.A = m.of(k.a)
	}
	if k.numbers > 1 {
		o.B = m.of(k.b)
	}
	return o
}

// progs is right programs.
func (m maker) progs(most, ops int) []program.Prog {
	l := make([]program.Prog, 1+m.Intn(most))
	for i := range l {
		l[i].Name = strconv.FormatInt(int64(m.Intn(1<<20)), 36) + "z" + strconv.Itoa(i)
		for range m.Intn(ops + 1) {
			l[i].Ops = append(l[i].Ops, m.op(i, len(l)))
		}
	}
	return l
}

// anyNumber is a number, often one at some edge.
func (m maker) anyNumber() int {
	l := probes()
	return l[m.Intn(len(l))]
}

// probes is numbers at the edges of what may be, those whose last bits are such, and the ends of numbers.
func probes() []int {
	return []int{
		math.MinInt, math.MinInt + 1, math.MinInt32, -1024, -256, -255, -9, -2, -1,
		0, 1, 2, 3, 4, 5, 8, 9, 10, 15, 16, 17, 18, 19, 20, 22, 23, 27, 28, 29, 30, 31, 32, 33, 41, 42, 43, 49, 50, 62, 63, 64, 69, 70, 75, 76, 89, 90, 93, 94, 95,
		128, 129, 254, 255, 256, 257, 265, 999, 1000, 1001, 1023, 1024, 1025, 999999, 1000000, 1<<32 + 1, 1<<32 + 30, 1<<33 + 2, math.MaxInt - 1, math.MaxInt,
	}
}

// same says whether two lists say the same programs.
func same(a, b []program.Prog) bool {
	return slices.EqualFunc(a, b, func(p, q program.Prog) bool { return p.Name == q.Name && slices.Equal(p.Ops, q.Ops) })
}

// clone is programs in memory of their own.
func clone(l []program.Prog) []program.Prog {
	l = slices.Clone(l)
	for i := range l {
		l[i].Ops = slices.Clone(l[i].Ops)
	}
	return l
}

// parses checks what Parse answers.
func parses(t *testing.T, text string, want []program.Prog, wantError api.Errno) {
	t.Helper()
	if l, e := program.Parse(text); e != wantError || !same(l, want) {
		t.Fatalf("Parse of %.200q: %.300v, error %d, not %.300v, error %d", text, l, e, want, wantError)
	}
}

// refuses checks that Parse answers an error.
func refuses(t *testing.T, text string, want api.Errno) {
	t.Helper()
	parses(t, text, nil, want)
}

// checks checks what is wrong with programs, as Check tells it, and so Print, and Work.
func checks(t *testing.T, l []program.Prog, want api.Errno) {
	t.Helper()
	if e := program.Check(l); e != want {
		t.Fatalf("Check of %.300v: error %d, not %d", l, e, want)
	}
	text, e := program.Print(l)
	if e != want || e != api.OK && text != "" {
		t.Fatalf("Print of %.300v: %.100q, error %d, not %d", l, text, e, want)
	}
	if want == api.OK {
		return
	}
	for i := -1; i <= len(l); i++ {
		if n := program.Work(l, i); n != 0 {
			t.Fatalf("Work of %d of %.300v: %d", i, l, n)
		}
	}
}
