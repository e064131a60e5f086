package coord

// set: of tasks' numbers.
type set map[int]struct{}

func newSet(l []int) set {
	s := set{}
	for _, n := range l {
		s.put(n)
	}
	return s
}

func (s set) put(n int) { s[n] = struct{}{} }

func (s set) has(n int) bool {
	_, ok := s[n]
	return ok
}

// only: those of a list that are in it.
func (s set) only(l []int) []int {
	var in []int
	for _, n := range l {
		if s.has(n) {
			in = append(in, n)
		}
	}
	return in
}

// eachOnce: a list without what stands in it already further ahead.
func eachOnce(l []int) []int {
	var once []int
	had := set{}
	for _, n := range l {
		if !had.has(n) {
			had.put(n)
			once = append(once, n)
		}
	}
	return once
}

// roll: who is asked something, each once and in order, and who of them has answered.
type roll struct {
	asked    []int
	on       set // those that are asked
	answered set
}

func newRoll(asked []int) roll {
	return roll{asked: asked, on: newSet(asked), answered: set{}}
}

// answer: of one who isn't asked, or has answered, it is passed over; else it tells whether that was the last one.
func (r roll) answer(who int) bool {
	if !r.on.has(who) || r.answered.has(who) {
		return false
	}
	r.answered.put(who)
	return r.full()
}

// full: whether all have answered.
func (r roll) full() bool { return len(r.answered) == len(r.asked) }

// missing: who hasn't answered, in order.
func (r roll) missing() []int {
	var l []int
	for _, who := range r.asked {
		if !r.answered.has(who) {
			l = append(l, who)
		}
	}
	return l
}

func (r roll) askAgain() { clear(r.answered) }
