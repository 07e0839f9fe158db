package raw

// read is a read, and its terminal's min and time; no number of it is below 0.
type read struct{ min, time, have, want, idle, waited int }

// newRead is the read of those numbers.
func newRead(min, time, have, want, idle, waited int) read {
	return read{
		min:    max(0, min),
		time:   max(0, time),
		have:   max(0, have),
		want:   max(0, want),
		idle:   max(0, idle),
		waited: max(0, waited),
	}
}

// bytes is how many bytes the read has when it is done.
func (r read) bytes() int { return min(r.have, r.want) }

// ticks is how many ticks it takes until the read is done, if nothing comes; false: it never is.
func (r read) ticks() (int, bool) {
	if r.want == 0 {
		return 0, true
	}
	sorts := [4]func(read) (int, bool){atOnce, bySomeTime, byCount, byCountOrGap}
	return sorts[r.sort()](r)
}

// sort is where the read's sort stands among the four.
func (r read) sort() int {
	place := 0
	if r.time > 0 {
		place++
	}
	if r.min > 0 {
		place += 2
	}
	return place
}

// isEnough says whether there are so many bytes that no time matters.
func (r read) isEnough() bool { return r.have >= r.min || r.have >= r.want }

// atOnce is the sort with neither min nor time: it is done whatever is there.
func atOnce(read) (int, bool) { return 0, true }

// bySomeTime is the sort with time alone: it waits for any byte, and no longer than that.
func bySomeTime(r read) (int, bool) {
	if r.have > 0 {
		return 0, true
	}
	return max(0, r.time-r.waited), true
}

// byCount is the sort with min alone: no time makes it done.
func byCount(r read) (int, bool) { return 0, r.isEnough() }

// byCountOrGap is the sort with both: the time runs behind each byte, so it takes a first one.
func byCountOrGap(r read) (int, bool) {
	switch {
	case r.isEnough():
		return 0, true
	case r.have == 0:
		return 0, false
	}
	return max(0, r.time-r.idle), true
}
