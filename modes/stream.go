package modes

import "parlour/api"

// Opcodes of a stream that mean neither a character nor a flag.
const (
	end       = 0
	inSpeed   = 128
	outSpeed  = 129
	strange   = 160 // from here on nobody knows how long an argument is, so the stream can't be read on
	modeSize  = 5   // an opcode, and its argument
	flagIsOn  = 1
	flagIsOff = 0
)

// isEnd says whether an opcode ends a stream.
func isEnd(op byte) bool { return op == end || op >= strange }

// with is a setting with what one mode says.
func with(t api.Termios, op int, argument uint32) (api.Termios, api.Errno) {
	switch {
	case isCharacter(op):
		if argument > 255 {
			return api.Termios{}, api.ErrRange
		}
		t.Chars[op] = byte(argument)
	case op == inSpeed:
		t.In = argument
	case op == outSpeed:
		t.Out = argument
	default:
		t = Set(t, op, argument != flagIsOff)
	}
	return t, api.OK
}

// flagArgument is what a stream says of a flag.
func flagArgument(t api.Termios, op int) uint32 {
	if Has(t, op) {
		return flagIsOn
	}
	return flagIsOff
}

// number is what four bytes say, the highest first.
func number(b []byte) uint32 {
	var n uint32
	for _, c := range b {
		n = n<<8 | uint32(c)
	}
	return n
}

// put is bytes with a mode behind them.
func put(b []byte, op int, argument uint32) []byte {
	return append(b, byte(op), byte(argument>>24), byte(argument>>16), byte(argument>>8), byte(argument))
}
