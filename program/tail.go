package program

import (
	"strconv"
	"strings"
)

const (
	greatestNumber = 999999
	hexDigits      = "0123456789abcdef"
	escape         = '\\'
)

// numbers is how many numbers stand behind a word, a blank ahead of each.
type numbers int

func (n numbers) tail() tail { return tail{n.read, n.write, n.only} }

func (n numbers) read(behind string) (Op, bool) {
	// Ahead of the first blank, or where there is none, stands nothing.
	written := strings.Split(behind, " ")[1:]
	if len(written) != int(n) {
		return Op{}, false
	}
	var values [2]int
	for i, w := range written {
		value, ok := number(w)
		if !ok {
			return Op{}, false
		}
		values[i] = value
	}
	return Op{A: values[0], B: values[1]}, true
}

func (n numbers) write(o Op) string {
	behind := ""
	for _, value := range []int{o.A, o.B}[:n] {
		behind += " " + strconv.Itoa(value)
	}
	return behind
}

func (n numbers) only(o Op) bool {
	return (n > 0 || o.A == 0) && (n > 1 || o.B == 0) && o.Text == ""
}

// number is the number that is written so, if there is one.
func number(written string) (int, bool) {
	n, err := strconv.Atoi(written)
	// What isn't as it would be written has a sign, or more digits than are needed.
	if err != nil || n < 0 || n > greatestNumber || strconv.Itoa(n) != written {
		return 0, false
	}
	return n, true
}

// quoted is a text behind a word, and a blank ahead of it.
type quoted struct{}

func (q quoted) tail() tail { return tail{q.read, q.write, q.only} }

func (quoted) read(behind string) (Op, bool) {
	written, ok := strings.CutPrefix(behind, " ")
	if !ok {
		return Op{}, false
	}
	text, ok := unquote(written)
	if !ok {
		return Op{}, false
	}
	return Op{Text: text}, true
}

func (quoted) write(o Op) string { return " " + quote(o.Text) }

func (quoted) only(o Op) bool { return o.A == 0 && o.B == 0 }

// quote is a text as it is written.
func quote(text string) string {
	var b []byte
	for i := range len(text) {
		c := text[i]
		if isItself(c) {
			b = append(b, c)
		} else {
			b = append(b, escape, hexDigits[c>>4], hexDigits[c&15])
		}
	}
	return string(b)
}

// unquote is the text that is written so, if there is one.
func unquote(written string) (string, bool) {
	var b []byte
	for len(written) > 0 {
		c, size, ok := first(written)
		if !ok {
			return "", false
		}
		b = append(b, c)
		written = written[size:]
	}
	return string(b), true
}

// first is the first byte of a text as it is written, and how many bytes it takes there.
func first(written string) (byte, int, bool) {
	if isItself(written[0]) {
		return written[0], 1, true
	}
	if written[0] != escape || len(written) < 3 {
		return 0, 0, false
	}
	high, low := strings.IndexByte(hexDigits, written[1]), strings.IndexByte(hexDigits, written[2])
	if high < 0 || low < 0 {
		return 0, 0, false
	}
	c := byte(high<<4 | low)
	if isItself(c) {
		return 0, 0, false
	}
	return c, 3, true
}

// isItself says whether a byte of a text is written as itself.
func isItself(c byte) bool { return isVisible(c) && c != escape }

// isVisible says whether a byte may stand in a name, and in a text but for what has a meaning there.
func isVisible(c byte) bool { return c >= 33 && c <= 126 }
