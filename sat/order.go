package sat

const (
	firstStep = 1 << 20 // how much the first variable that was met weighs more
	slower    = 16      // each step is by 1/16 greater than the one ahead
	tooHeavy  = 1 << 60 // above this all weights lose their last bits
	lighter   = 32      // so many of them
)

// order is a heap of the variables that may be guessed; first comes the one that was met most, and most lately.
type order struct {
	heap   []int
	at     []int // where each variable stands in it; below 0: nowhere
	weight []uint64
	step   uint64
}

// add puts a variable in, if it isn't there.
func (o *order) add(v int) {
	if v == len(o.at) {
		o.at, o.weight = append(o.at, -1), append(o.weight, 0)
	}
	if o.at[v] < 0 {
		o.heap = append(o.heap, v)
		o.up(len(o.heap)-1, v)
	}
}

// take takes the first variable out; false: there is none.
func (o *order) take() (int, bool) {
	last := len(o.heap) - 1
	if last < 0 {
		return 0, false
	}
	v, w := o.heap[0], o.heap[last]
	o.heap = o.heap[:last]
	if last > 0 {
		o.down(0, w)
	}
	o.at[v] = -1
	return v, true
}

// meet makes a variable weigh more.
func (o *order) meet(v int) {
	o.weight[v] += o.step
	if o.at[v] >= 0 {
		o.up(o.at[v], v)
	}
	if o.weight[v] > tooHeavy {
		o.lighten()
	}
}

// age makes what is met from now on weigh more than what was.
func (o *order) age() { o.step += o.step / slower }

// lighten makes all weights less; the heap stays one, as none comes to be more than another one that it wasn't more than.
func (o *order) lighten() {
	for v := range o.weight {
		o.weight[v] >>= lighter
	}
	o.step >>= lighter
}

// up puts a variable where it stands, or nearer to the first place.
func (o *order) up(i, v int) {
	for i > 0 {
		above := (i - 1) / 2
		if o.weight[o.heap[above]] >= o.weight[v] {
			break
		}
		o.place(i, o.heap[above])
		i = above
	}
	o.place(i, v)
}

// down puts a variable where it stands, or further from the first place.
func (o *order) down(i, v int) {
	for {
		below := 2*i + 1
		if below >= len(o.heap) {
			break
		}
		if other := below + 1; other < len(o.heap) && o.weight[o.heap[other]] > o.weight[o.heap[below]] {
			below = other
		}
		if o.weight[v] >= o.weight[o.heap[below]] {
			break
		}
		o.place(i, o.heap[below])
		i = below
	}
	o.place(i, v)
}

func (o *order) place(i, v int) {
	o.heap[i] = v
	o.at[v] = i
}
