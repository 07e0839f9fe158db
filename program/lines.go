package program

import "strings"

// programWord stands ahead of a program's name.
const programWord = "prog"

// reader is the programs that were read of a text, line by line.
type reader struct {
	rows
	progs []Prog
}

// said is the programs that a text says, right ones or not; false: it is no such text.
func said(text string) ([]Prog, bool) {
	r := reader{rows: allRows()}
	for len(text) > 0 {
		line, rest, ended := strings.Cut(text, "\n")
		if !ended || !r.take(line) {
			return nil, false
		}
		text = rest
	}
	return r.progs, true
}

// take takes a line; false: it may not stand there.
func (r *reader) take(line string) bool {
	word, _, _ := strings.Cut(line, " ")
	behind := line[len(word):]
	if word == programWord {
		return r.takeName(behind)
	}
	k, ok := r.named(word)
	if !ok || len(r.progs) == 0 {
		return false
	}
	o, ok := k.read(behind)
	if !ok {
		return false
	}
	o.Kind = k.kind
	p := &r.progs[len(r.progs)-1]
	p.Ops = append(p.Ops, o)
	return true
}

// takeName has a program begin. Whether it may have that name is asked when all are read.
func (r *reader) takeName(behind string) bool {
	name, ok := strings.CutPrefix(behind, " ")
	if !ok {
		return false
	}
	for i := range len(name) {
		if !isVisible(name[i]) {
			return false
		}
	}
	r.progs = append(r.progs, Prog{Name: strings.Clone(name)})
	return true
}

// line is a right operation as it is written.
func (l rows) line(o Op) string {
	r, _ := l.of(o.Kind)
	return r.word + r.write(o)
}
