package queue

// marks tell when there is too much: from the high one on, till the low one is reached.
type marks struct {
	high, low int
	over      bool
}

// rise sees to the high mark when more is used.
func (m *marks) rise(used int) {
	if used >= m.high {
		m.over = true
	}
}

// fall sees to the low mark when less is used.
func (m *marks) fall(used int) {
	if used <= m.low {
		m.over = false
	}
}
