package canon

// cut is the first bytes of a line, so many or all, in memory of their own, and the line without them.
func (x Line) cut(n int) ([]byte, Line) {
	n = min(n, len(x.Text))
	return copiedBytes(x.Text[:n]), Line{Text: x.Text[n:], Eof: x.Eof}
}

// copied is the same lines in memory of their own, each line's bytes in their own, too.
func copied(l []Line) []Line {
	var same []Line
	for _, x := range l {
		same = append(same, Line{Text: copiedBytes(x.Text), Eof: x.Eof})
	}
	return same
}

// copiedBytes is the same bytes in memory of their own.
func copiedBytes(b []byte) []byte { return append([]byte(nil), b...) }
