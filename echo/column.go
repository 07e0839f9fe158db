package echo

import (
	"parlour/api"
	"parlour/modes"
)

const (
	lastColumn = 65535
	tabWidth   = 8
	signWidth  = 2 // of ^ and a sign
)

// Bytes that go on with a character of UTF-8 are those from the first to the last.
const (
	firstGoingOn = 0x80
	lastGoingOn  = 0xbf
)

// Step is the column behind a byte that is shown.
func Step(t api.Termios, col int, c byte) int { return behind(t, inside(col), c) }

// Cols is the column behind a line that is shown.
func Cols(t api.Termios, col int, l []byte) int {
	// Only the first column is looked at: one that went back to 0 within a line would make less of more bytes.
	col = inside(col)
	for _, c := range l {
		col = behind(t, col, c)
	}
	return col
}

// behind is the column behind a byte, from any column on that isn't below 0.
func behind(t api.Termios, col int, c byte) int {
	switch {
	case c == tab:
		return col - col%tabWidth + tabWidth
	case hasSign(t, c):
		return col + signWidth
	case isControl(c):
		return col
	case goesOn(c) && modes.Has(t, api.IUTF8):
		return col
	}
	return col + 1
}

// inside is a column that a line may begin at.
func inside(col int) int {
	if col < 0 || col > lastColumn {
		return 0
	}
	return col
}

// goesOn says whether a byte goes on with a character that another byte began.
func goesOn(c byte) bool { return c >= firstGoingOn && c <= lastGoingOn }
