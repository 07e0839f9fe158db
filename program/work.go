package program

import "parlour/api"

// workOf is how many operations are done at most of a list of them, where the work of each later program is known.
func workOf(ops []Op, works [api.MaxProgs]int) int {
	n := 0
	for _, o := range ops {
		n = more(n, 1)
		switch o.Kind {
		case Fork:
			n = more(n, works[o.A])
		case Exec:
			return more(n, works[o.A])
		case Exit:
			return n
		}
	}
	return n
}

// more is one work and another, neither of them above the most that is told.
func more(work, other int) int { return work + min(other, mostWork-work) }
