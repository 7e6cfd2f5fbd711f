package sat

// set makes a literal true, on the level that it has come to.
func (s *Solver) set(p lit, from *clause) {
	v := p.of()
	s.truth[p], s.truth[p.not()] = 1, -1
	s.level[v], s.reason[v] = len(s.levels), from
	s.trail = append(s.trail, p)
}

// rise begins another level.
func (s *Solver) rise() { s.levels = append(s.levels, len(s.trail)) }

// back undoes all levels above one.
func (s *Solver) back(level int) {
	if len(s.levels) <= level {
		return
	}
	first := s.levels[level]
	for _, p := range s.trail[first:] {
		v := p.of()
		s.truth[p], s.truth[p.not()] = 0, 0
		s.reason[v], s.last[v] = nil, p
		s.order.add(v)
	}
	s.trail, s.levels = s.trail[:first], s.levels[:level]
	s.next = first // a level is begun only when all below it was spread
}

// spread makes true what follows; a clause that has false literals alone, if it comes to one.
func (s *Solver) spread() *clause {
	for s.next < len(s.trail) {
		p := s.trail[s.next].not()
		s.next++
		if bad := s.visit(p); bad != nil {
			return bad
		}
	}
	return nil
}

// visit looks at the clauses that watch a literal, which is false now.
func (s *Solver) visit(p lit) *clause {
	l := s.watches[p]
	stay := l[:0]
	var bad *clause
	for i, w := range l {
		if s.truth[w.other] > 0 {
			stay = append(stay, w)
			continue
		}
		first := w.clause.first(p)
		if s.truth[first] <= 0 && s.moved(w.clause) {
			continue
		}
		stay = append(stay, watch{w.clause, first})
		if s.truth[first] < 0 {
			bad = w.clause
			stay = append(stay, l[i+1:]...)
			break
		}
		if s.truth[first] == 0 {
			s.set(first, w.clause)
		}
	}
	clear(l[len(stay):])
	s.watches[p] = stay
	return bad
}

// moved has a clause watch another literal in place of its second one, if there is one that isn't false.
func (s *Solver) moved(c *clause) bool {
	l := c.lits
	for i := 2; i < len(l); i++ {
		if p := l[i]; s.truth[p] >= 0 {
			l[1], l[i] = p, l[1]
			s.watches[p] = append(s.watches[p], watch{c, l[0]})
			return true
		}
	}
	return false
}
