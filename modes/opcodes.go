package modes

import "parlour/api"

// The opcodes of characters are those from the first to the last.
const (
	firstCharacter = api.VINTR
	lastCharacter  = api.VDISCARD
)

// flags goes through the opcodes of flags, the least first.
func flags(yield func(op int) bool) {
	for _, span := range [...][2]int{
		{api.IGNPAR, api.IUTF8},
		{api.ISIG, api.PENDIN},
		{api.OPOST, api.ONLRET},
		{api.CS7, api.PARODD},
	} {
		for op := span[0]; op <= span[1]; op++ {
			if !yield(op) {
				return
			}
		}
	}
}

// isFlag says whether an opcode is that of a flag.
func isFlag(op int) bool {
	for flag := range flags {
		if flag == op {
			return true
		}
	}
	return false
}

// isCharacter says whether an opcode is that of a character.
func isCharacter(op int) bool { return op >= firstCharacter && op <= lastCharacter }

// bit is where a flag stands in a setting's flags.
func bit(flag int) uint64 { return 1 << (flag - api.IGNPAR) }

// flagBits is where any flag stands.
func flagBits() uint64 {
	var bits uint64
	for flag := range flags {
		bits |= bit(flag)
	}
	return bits
}
