package timer

// timer is due at a time.
type timer struct {
	id  int
	due int64
}

// ahead says whether a timer is ahead of another one.
func (t timer) ahead(other timer) bool {
	if t.due != other.due {
		return t.due < other.due
	}
	return t.id < other.id
}

// places is the heap of timers, as container/heap asks for one; it keeps account of where in it each timer stands.
type places struct {
	list []timer
	of   map[int]int // by a timer's id, its place in the list
}

// noPlaces is a heap without timers.
func noPlaces() *places { return &places{of: map[int]int{}} }

// Len is how many timers stand in the heap.
func (p *places) Len() int { return len(p.list) }

// Less says whether the timer of one place is ahead of that of another.
func (p *places) Less(i, j int) bool { return p.list[i].ahead(p.list[j]) }

// Swap changes the places of two timers.
func (p *places) Swap(i, j int) {
	p.list[i], p.list[j] = p.list[j], p.list[i]
	p.of[p.list[i].id] = i
	p.of[p.list[j].id] = j
}

// Push puts a timer at the last place.
func (p *places) Push(x any) {
	t := x.(timer)
	p.of[t.id] = len(p.list)
	p.list = append(p.list, t)
}

// Pop takes the timer of the last place off.
func (p *places) Pop() any {
	last := len(p.list) - 1
	t := p.list[last]
	p.list = p.list[:last]
	delete(p.of, t.id)
	return t
}
