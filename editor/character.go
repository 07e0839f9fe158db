package editor

import (
	"parlour/api"
	"parlour/modes"
)

const (
	space = 32
	tab   = 9
)

// Bytes that go on with a character of UTF-8 are those from the first to the last.
const (
	firstGoingOn = 0x80
	lastGoingOn  = 0xbf
)

// longestUTF8 is how many bytes a character of UTF-8 has at most.
const longestUTF8 = 4

// longestCharacter is how many bytes a character has at most.
func longestCharacter(t api.Termios) int {
	if modes.Has(t, api.IUTF8) {
		return longestUTF8
	}
	return 1
}

// lastCharacter is how many bytes the last character of a line has, which are no more than the longest: none, if the line has none.
func lastCharacter(line []byte, longest int) int {
	most := min(longest, len(line))
	for n := 1; n < most; n++ {
		if !goesOn(line[len(line)-n]) {
			return n
		}
	}
	return most
}

// goesOn says whether a byte goes on with a character that another byte began.
func goesOn(c byte) bool { return c >= firstGoingOn && c <= lastGoingOn }

// isBlank says whether a character stands between words.
func isBlank(character []byte) bool {
	return len(character) == 1 && (character[0] == space || character[0] == tab)
}
