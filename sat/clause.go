package sat

import "slices"

// lit is a literal: twice where its variable stands among those in use, and 1 more, if it says that the variable is false.
type lit int32

// not is the variable's other literal.
func (p lit) not() lit { return p ^ 1 }

// of is the literal's variable.
func (p lit) of() int { return int(p >> 1) }

// clause is two literals or more; those that are false come to stand behind the first two, as long as there are others.
type clause struct {
	lits []lit
	glue int  // on how many levels its literals stood when it was learnt
	used int  // the last conflict that it had to do with
	gone bool // it was forgotten
}

// first puts p, one of the first two literals, behind the other one, and tells that other one.
func (c *clause) first(p lit) lit {
	if c.lits[0] == p {
		c.lits[0], c.lits[1] = c.lits[1], p
	}
	return c.lits[0]
}

// watch is a clause that is to be looked at, unless another literal of it is true.
type watch struct {
	clause *clause
	other  lit
}

// lits is literals as they are told inside; it takes variables into use that come up for the first time.
func (s *Solver) lits(l []int) []lit {
	var out []lit
	for _, n := range l {
		v, ok := s.numbers[max(n, -n)]
		if !ok {
			v = s.use(max(n, -n))
		}
		p := lit(2 * v)
		if n < 0 {
			p = p.not()
		}
		out = append(out, p)
	}
	return out
}

// use takes a variable into use.
func (s *Solver) use(n int) int {
	v := len(s.names)
	s.names = append(s.names, n)
	s.numbers[n] = v
	s.truth = append(s.truth, 0, 0)
	s.watches = append(s.watches, nil, nil)
	s.level = append(s.level, 0)
	s.reason = append(s.reason, nil)
	s.last = append(s.last, lit(2*v+1))
	s.order.add(v)
	return v
}

// name is a literal as it is told outside.
func (s *Solver) name(p lit) int {
	n := s.names[p.of()]
	if p&1 != 0 {
		n = -n
	}
	return n
}

// put takes a clause in, but for what facts say of it already.
func (s *Solver) put(l []lit) {
	if slices.ContainsFunc(l, func(p lit) bool { return s.truth[p] > 0 }) {
		return
	}
	l = slices.DeleteFunc(l, func(p lit) bool { return s.truth[p] < 0 })
	switch len(l) {
	case 0:
		s.dead = true
	case 1:
		s.set(l[0], nil)
	default:
		s.watch(&clause{lits: l})
	}
}

// watch has a clause looked at when one of its first two literals is false.
func (s *Solver) watch(c *clause) {
	a, b := c.lits[0], c.lits[1]
	s.watches[a] = append(s.watches[a], watch{c, b})
	s.watches[b] = append(s.watches[b], watch{c, a})
}

// forget keeps the better ones of the clauses that were learnt, if there is no room for more of them.
func (s *Solver) forget() {
	if len(s.learnt) < s.room {
		return
	}
	s.room += moreRoom
	// What follows from a clause that is forgotten is still so.
	isFact := func(p lit) bool { return s.truth[p] > 0 && s.level[p.of()] == 0 }
	slices.SortStableFunc(s.learnt, worth)
	left := len(s.learnt) / 2
	s.keep(func(c *clause) bool {
		left--
		return !slices.ContainsFunc(c.lits, isFact) && (left >= 0 || c.glue <= goodGlue)
	})
}

// worth tells which clause is better to have: one whose literals came to be false with fewer guesses, then one that was of use more lately.
func worth(a, b *clause) int {
	if a.glue != b.glue {
		return a.glue - b.glue
	}
	return b.used - a.used
}

// keep keeps those of the learnt clauses of which is says so.
func (s *Solver) keep(is func(c *clause) bool) {
	s.learnt = slices.DeleteFunc(s.learnt, func(c *clause) bool {
		c.gone = !is(c)
		return c.gone
	})
	for p, l := range s.watches {
		s.watches[p] = slices.DeleteFunc(l, func(w watch) bool { return w.clause.gone })
	}
}
