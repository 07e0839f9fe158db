package program

// row is a kind of operation: the word that stands for it, what stands behind the word, and which operations of the kind may be.
type row struct {
	kind int
	word string
	tail
	may func(placed) bool
}

// tail is what stands behind a word in a line: how it is read and written, and whether an operation has nothing but that.
type tail struct {
	read  func(behind string) (Op, bool)
	write func(Op) string
	only  func(Op) bool
}

// rows is each kind's one row.
type rows [Copy]row

func allRows() rows {
	nothing, one, two, text := numbers(0).tail(), numbers(1).tail(), numbers(2).tail(), quoted{}.tail()
	return rows{
		{Exit, "exit", one, placed.exit},
		{Out, "out", text, placed.text},
		{Err, "err", text, placed.text},
		{In, "in", one, placed.in},
		{Fork, "fork", one, placed.later},
		{Exec, "exec", one, placed.later},
		{Wait, "wait", one, placed.wait},
		{Kill, "kill", two, placed.kill},
		{Group, "group", one, placed.group},
		{Session, "session", nothing, placed.anyway},
		{Front, "front", one, placed.front},
		{Act, "act", two, placed.act},
		{Mask, "mask", two, placed.mask},
		{Sleep, "sleep", one, placed.sleep},
		{Mode, "mode", two, placed.mode},
		{Copy, "copy", nothing, placed.anyway},
	}
}

// of is a kind's row, if there is such a kind.
func (l rows) of(kind int) (row, bool) {
	for _, r := range l {
		if r.kind == kind {
			return r, true
		}
	}
	return row{}, false
}

// named is the row of the kind for which a word stands, if there is one.
func (l rows) named(word string) (row, bool) {
	for _, r := range l {
		if r.word == word {
			return r, true
		}
	}
	return row{}, false
}
