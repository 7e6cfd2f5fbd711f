package allsat

// walker goes through all ways, in order: the last variable first, and false ahead of true.
type walker struct {
	names *names
	find  func(is ...int) (cube, bool)
	most  int
	way   []int
	ways  [][]int
}

// walk tells the ways whose literals behind the first ones are as they stand in w.way; c meets these.
func (w *walker) walk(first int, c cube) {
	if first == 0 {
		w.ways = append(w.ways, w.names.out(w.way))
		return
	}
	for _, p := range []int{-first, first} {
		if w.most > 0 && len(w.ways) >= w.most {
			return
		}
		w.way[first-1] = p
		next, ok := c, true
		if !c.meets(cube{}.with(first-1, p > 0)) {
			next, ok = w.find(w.way[first-1:]...)
		}
		if ok {
			w.walk(first-1, next)
		}
	}
}
