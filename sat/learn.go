package sat

import "slices"

// deep is over how many clauses it is looked for what a literal follows from.
const deep = 200

// learn takes in a clause that follows from the others and tells why one of them failed, and goes back to where it makes a literal true.
func (s *Solver) learn(bad *clause) {
	l := s.shorten(s.point(bad))
	s.order.age()
	if len(l) == 1 {
		s.facts++
		s.back(0)
		s.set(l[0], nil)
		return
	}
	c := &clause{lits: l, glue: s.spans(l), used: s.conflicts}
	s.back(s.second(l))
	s.learnt = append(s.learnt, c)
	s.watch(c)
	s.set(l[0], c)
}

// point resolves the clause that failed with those from which its literals follow, the last ones first, until one literal of the last level is left; that one stands first.
func (s *Solver) point(bad *clause) []lit {
	l := []lit{0}
	open := 0 // literals of the last level that are met, but not resolved yet
	at := len(s.trail)
	for c := bad; ; c = s.reason[s.trail[at].of()] {
		c.used = s.conflicts
		for _, p := range c.lits {
			v := p.of()
			if s.level[v] == 0 || s.wasMet(v) {
				continue
			}
			s.met[v] = s.conflicts
			s.order.meet(v)
			if s.level[v] == len(s.levels) {
				open++
			} else {
				l = append(l, p)
			}
		}
		at--
		for !s.wasMet(s.trail[at].of()) {
			at--
		}
		open--
		if open == 0 {
			l[0] = s.trail[at].not()
			return l
		}
	}
}

func (s *Solver) wasMet(v int) bool { return s.met[v] == s.conflicts }

// spans is on how many levels literals stand.
func (s *Solver) spans(l []lit) int {
	levels := map[int]struct{}{}
	for _, p := range l {
		levels[s.level[p.of()]] = struct{}{}
	}
	return len(levels)
}

// shorten leaves literals out that are false wherever the others are.
func (s *Solver) shorten(l []lit) []lit {
	rest := slices.DeleteFunc(l[1:], func(p lit) bool { return s.follows(p.of(), deep) })
	return l[:1+len(rest)]
}

// follows is whether a variable is what it is because those that were met are what they are.
func (s *Solver) follows(v, deep int) bool {
	c := s.reason[v]
	if c == nil || deep == 0 {
		return false
	}
	for _, p := range c.lits {
		w := p.of()
		if w == v || s.level[w] == 0 || s.wasMet(w) {
			continue
		}
		if !s.follows(w, deep-1) {
			return false
		}
		s.met[w] = s.conflicts
	}
	return true
}

// second puts a literal of the greatest level behind the first one, and tells that level.
func (s *Solver) second(l []lit) int {
	for i := 2; i < len(l); i++ {
		if s.level[l[i].of()] > s.level[l[1].of()] {
			l[1], l[i] = l[i], l[1]
		}
	}
	return s.level[l[1].of()]
}

// blame is those of the assumed literals because of which a clause failed where nothing was guessed.
func (s *Solver) blame(bad *clause) []lit {
	if len(s.levels) == 0 {
		return nil
	}
	meet := func(c *clause) {
		for _, p := range c.lits {
			s.met[p.of()] = s.conflicts
		}
	}
	meet(bad)
	var l []lit
	for _, p := range slices.Backward(s.trail[s.levels[0]:]) {
		if !s.wasMet(p.of()) {
			continue
		}
		if c := s.reason[p.of()]; c != nil {
			meet(c)
		} else {
			l = append(l, p)
		}
	}
	return l
}
