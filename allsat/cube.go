package allsat

// cube is literals of the first variables: of which of them, a bit each, and which of these are true.
type cube struct{ of, is uint32 }

// has is whether a literal of a variable, counted from 0, is in the cube.
func (c cube) has(at int) bool { return c.of>>at&1 != 0 }

// with is the cube with one literal more.
func (c cube) with(at int, is bool) cube {
	c.of |= 1 << at
	if is {
		c.is |= 1 << at
	}
	return c
}

// meets is whether no variable is in both cubes, but otherwise.
func (c cube) meets(d cube) bool { return c.of&d.of&(c.is^d.is) == 0 }

// lits is the cube's literals.
func (c cube) lits() []int {
	var l []int
	for at := 0; c.of>>at != 0; at++ {
		if !c.has(at) {
			continue
		}
		if c.is>>at&1 != 0 {
			l = append(l, at+1)
		} else {
			l = append(l, -at-1)
		}
	}
	return l
}
