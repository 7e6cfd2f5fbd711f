package bdd

// node asks a variable, and leads to one node, if that is false, and to another one, if it is true.
type node struct{ asks, no, yes int32 }

// leads is the node to which it leads, if its variable is as told.
func (n node) leads(is bool) int32 {
	if is {
		return n.yes
	}
	return n.no
}

// hasNodes is whether all of some nodes are there.
func (s *Store) hasNodes(l ...int) bool {
	for _, f := range l {
		if f < 0 || f >= len(s.nodes) {
			return false
		}
	}
	return true
}

// hasVars is whether all of some variables are there.
func (s *Store) hasVars(l ...int) bool {
	for _, v := range l {
		if v < 0 || v >= s.vars {
			return false
		}
	}
	return true
}

// find is the number of a node, if it is there.
func (s *Store) find(n node) (int32, bool) {
	number, ok := s.table()[n]
	return number, ok
}

// put makes a node that isn't there.
func (s *Store) put(n node) int32 {
	number := int32(len(s.nodes))
	s.nodes = append(s.nodes, n)
	s.table()[n] = number
	return number
}

// table is the numbers of the nodes: a store that is never asked for one has none.
func (s *Store) table() map[node]int32 {
	s.once.Do(func() { s.numbers = map[node]int32{} })
	return s.numbers
}

// visit sees each node of a diagram once, but the ends.
func (s *Store) visit(f int, see func(n node)) {
	seen := map[int32]struct{}{0: {}, 1: {}}
	var walk func(n int32)
	walk = func(n int32) {
		if _, ok := seen[n]; ok {
			return
		}
		seen[n] = struct{}{}
		at := s.nodes[n]
		see(at)
		walk(at.no)
		walk(at.yes)
	}
	walk(int32(f))
}

// asked is the variables that a diagram asks.
func (s *Store) asked(f int) map[int]struct{} {
	vars := map[int]struct{}{}
	s.visit(f, func(n node) { vars[int(n.asks)] = struct{}{} })
	return vars
}

// apart is whether no two of the variables that a diagram asks get the same name.
func (s *Store) apart(f int, to []int) bool {
	taken := map[int]struct{}{}
	for v := range s.asked(f) {
		if _, ok := taken[to[v]]; ok {
			return false
		}
		taken[to[v]] = struct{}{}
	}
	return true
}

// counter tells in how many ways a node is true, of the variables from its own on.
func (s *Store) counter() func(n int32) uint64 {
	known := map[int32]uint64{0: 0, 1: 1}
	var count func(n int32) uint64
	count = func(n int32) uint64 {
		if many, ok := known[n]; ok {
			return many
		}
		at, many := s.nodes[n], uint64(0)
		for _, to := range []int32{at.no, at.yes} {
			skipped := s.nodes[to].asks - at.asks - 1 // may be anything
			many += count(to) << skipped
		}
		known[n] = many
		return many
	}
	return count
}
