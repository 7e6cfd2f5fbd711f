package allsat

import "skua/cnf"

// names calls variables by numbers from 1 on, as they come up: a solver's model is as long as its greatest variable is great.
type names struct {
	numbers map[int]int
	vars    []int
}

// newNames calls some variables 1, 2, 3 and so on.
func newNames(vars []int) *names {
	n := &names{numbers: map[int]int{}}
	n.in(vars)
	return n
}

// in is literals by their variables' numbers.
func (n *names) in(l []int) []int {
	var out []int
	for _, p := range l {
		v := n.number(max(p, -p))
		if p < 0 {
			v = -v
		}
		out = append(out, v)
	}
	return out
}

// number is a variable's; if it has none, it gets the next one.
func (n *names) number(v int) int {
	if number, ok := n.numbers[v]; ok {
		return number
	}
	n.vars = append(n.vars, v)
	n.numbers[v] = len(n.vars)
	return len(n.vars)
}

// out is literals as they are told outside.
func (n *names) out(l []int) []int {
	var out []int
	for _, p := range l {
		v := n.vars[max(p, -p)-1]
		if p < 0 {
			v = -v
		}
		out = append(out, v)
	}
	return out
}

// clauses is clauses by their variables' numbers, without those that always hold.
func (n *names) clauses(l [][]int) [][]int {
	var out [][]int
	for _, c := range l {
		if c, ok := cnf.Clean(n.in(c)); ok {
			out = append(out, c)
		}
	}
	return out
}
