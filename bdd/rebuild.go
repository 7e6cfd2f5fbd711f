package bdd

// combiner tells what becomes of three diagrams, their variables being decided one by one till that is settled.
func (d *draft) combiner(settled func(f, g, h int32) (int32, bool)) func(f, g, h int32) int32 {
	done := map[[3]int32]int32{}
	var combine func(f, g, h int32) int32
	combine = func(f, g, h int32) int32 {
		if d.full {
			return 0
		}
		if n, ok := settled(f, g, h); ok {
			return n
		}
		if n, ok := done[[3]int32{f, g, h}]; ok {
			return n
		}
		v := min(d.at(f).asks, d.at(g).asks, d.at(h).asks)
		side := func(is bool) int32 { return combine(d.decided(f, v, is), d.decided(g, v, is), d.decided(h, v, is)) }
		n := d.node(v, side(false), side(true))
		done[[3]int32{f, g, h}] = n
		return n
	}
	return combine
}

// decided is a diagram, where a variable, than which it asks no earlier one, is as told.
func (d *draft) decided(f, v int32, is bool) int32 {
	n := d.at(f)
	if n.asks != v {
		return f
	}
	return n.leads(is)
}

// chosen settles what is g, where f is true, and h elsewhere.
func chosen(f, g, h int32) (int32, bool) {
	switch {
	case f == 1 || g == h:
		return g, true
	case f == 0:
		return h, true
	case (g == 1 || g == f) && (h == 0 || h == f):
		return f, true
	}
	return 0, false
}

// alike settles where f and g are the same.
func alike(f, g, _ int32) (int32, bool) {
	switch {
	case f == g:
		return 1, true
	case f == 1:
		return g, true
	case g == 1:
		return f, true
	}
	return 0, f <= 1 && g <= 1
}

// rebuilder tells what becomes of a diagram, if each node's variable and what became of those to which it leads are joined.
func (d *draft) rebuilder(join func(v, no, yes int32) int32) func(f int32) int32 {
	done := map[int32]int32{0: 0, 1: 1}
	var rebuild func(f int32) int32
	rebuild = func(f int32) int32 {
		if n, ok := done[f]; ok {
			return n
		}
		at := d.at(f)
		n := join(at.asks, rebuild(at.no), rebuild(at.yes))
		done[f] = n
		return n
	}
	return rebuild
}

// without tells what is true where a diagram can be, some variables being somehow.
func (d *draft) without(vars []int) func(f int32) int32 {
	free := map[int32]struct{}{}
	for _, v := range vars {
		free[int32(v)] = struct{}{}
	}
	choose := d.combiner(chosen)
	return d.rebuilder(func(v, no, yes int32) int32 {
		if _, ok := free[v]; ok {
			return choose(no, 1, yes)
		}
		return d.node(v, no, yes)
	})
}

// renamed tells a diagram with other variables.
func (d *draft) renamed(to []int) func(f int32) int32 {
	choose := d.combiner(chosen)
	return d.rebuilder(func(v, no, yes int32) int32 {
		return choose(d.node(int32(to[v]), 0, 1), yes, no) // the new variable may stand behind those of no and yes
	})
}
