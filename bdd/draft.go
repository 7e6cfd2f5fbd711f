package bdd

import "skua/api"

const spare = 1 << 16 // nodes that a draft may have, however little room there is

// draft is nodes that a call comes by and that aren't in the store: those of its answer go there in the end, the others were only on the way and take no room.
type draft struct {
	store   *Store
	first   int32  // the number of the draft's first node: behind those of the store
	nodes   []node // each one behind those to which it leads
	numbers map[node]int32
	most    int
	full    bool // there were more nodes; what is made from then on means nothing
}

// draft is an empty one.
func (s *Store) draft() *draft {
	return &draft{store: s, first: int32(len(s.nodes)), numbers: map[node]int32{}, most: max(spare, s.room-len(s.nodes))}
}

// at is a node by its number.
func (d *draft) at(n int32) node {
	if n < d.first {
		return d.store.nodes[n]
	}
	return d.nodes[n-d.first]
}

// node is the number of the node that asks so and leads there.
func (d *draft) node(asks, no, yes int32) int32 {
	if no == yes {
		return no
	}
	n := node{asks, no, yes}
	d.store.works.Add(1)
	if max(no, yes) < d.first { // else it can't be in the store
		if number, ok := d.store.find(n); ok {
			return number
		}
	}
	if number, ok := d.numbers[n]; ok {
		return number
	}
	if len(d.nodes) >= d.most {
		d.full = true
		return 0
	}
	number := d.first + int32(len(d.nodes))
	d.nodes = append(d.nodes, n)
	d.numbers[n] = number
	return number
}

// keep puts a diagram into the store: all of its nodes, or, if there is no room for them, none.
func (d *draft) keep(f int32) (int, api.Errno) {
	needed, many := d.needed(f)
	if d.full || len(d.store.nodes)+many > d.store.room {
		return 0, api.ErrBddFull
	}
	kept := make([]int32, len(d.nodes))
	number := func(n int32) int32 {
		if n < d.first {
			return n
		}
		return kept[n-d.first]
	}
	for i, n := range d.nodes {
		if needed[i] {
			kept[i] = d.store.put(node{n.asks, number(n.no), number(n.yes)})
		}
	}
	return int(number(f)), api.OK
}

// needed is which of the draft's nodes a diagram has, and how many.
func (d *draft) needed(f int32) ([]bool, int) {
	needed, many := make([]bool, len(d.nodes)), 0
	need := func(n int32) {
		if n >= d.first && !needed[n-d.first] {
			needed[n-d.first] = true
			many++
		}
	}
	need(f)
	for i := len(d.nodes) - 1; i >= 0; i-- {
		if needed[i] {
			need(d.nodes[i].no)
			need(d.nodes[i].yes)
		}
	}
	return needed, many
}
