package run

import (
	"skua/api"
	"skua/word"
)

// ending is what a run gives up with: which end it came to, and where.
type ending struct{ end, line, col int }

// deed is what a statement of some kind does.
type deed struct{ do func(s *api.Stmt) }

// block is statements that are gone through, which one is next, and the block behind which it goes on.
type block struct {
	list  []api.Stmt
	next  int
	outer *block
}

// call is a function that hasn't returned yet.
type call struct {
	vars   []uint64
	to     *uint64 // where what it returns goes; nil: nowhere
	outer  *block  // the block that it was called in
	caller *call
}

// runner is a run as far as it has come. What it is in hangs on the innermost block and call, not on the stack of Go's own calls: so a program may call itself as often as its steps allow.
type runner struct {
	prog    api.Prog
	draws   []uint64
	steps   int
	done    int // how many steps were begun
	drawn   int
	globals []uint64 // elements one by one
	first   []int    // where each global begins there
	block   *block   // the innermost one
	call    *call    // the innermost one; nil: main has returned
	deeds   map[string]deed
}

func begun(p api.Prog, draws []uint64, steps int) *runner {
	r := &runner{prog: p, draws: draws, steps: steps}
	for _, v := range p.Globals {
		r.first = append(r.first, len(r.globals))
		r.globals = append(r.globals, make([]uint64, max(v.Size, 1))...)
	}
	r.deeds = r.kinds()
	r.enter(&p.Funcs[p.Main], nil, nil)
	return r
}

// ended goes the run to its end; false: the program is none that Check answers.
func (r *runner) ended() (e ending, is bool) {
	defer func() {
		if x := recover(); x != nil {
			e, is = x.(ending)
		}
	}()
	r.run()
	return ending{end: api.EndDone}, true
}

// need ends the run at a place, if something isn't as it should be.
func need(is bool, end, line, col int) {
	if !is {
		panic(ending{end, line, col})
	}
}

func (r *runner) run() {
	for r.call != nil {
		b := r.block
		if b.next == len(b.list) {
			r.leave()
			continue
		}
		s := &b.list[b.next]
		need(r.done < r.steps, api.EndSteps, s.Line, s.Col)
		r.done++
		b.next++
		r.deeds[s.Op].do(s)
	}
}

// kinds is what statements of all kinds do.
func (r *runner) kinds() map[string]deed {
	return map[string]deed{
		"assign": {func(s *api.Stmt) {
			to := r.cell(&s.Target[0])
			*to = r.value(&s.Exprs[0])
		}},
		"nondet": {func(s *api.Stmt) {
			to := r.cell(&s.Target[0])
			need(r.drawn < len(r.draws), api.EndDraws, s.Line, s.Col)
			*to = word.Norm(s.Target[0].Type, r.draws[r.drawn])
			r.drawn++
		}},
		"call": {func(s *api.Stmt) {
			var to *uint64
			if len(s.Target) > 0 {
				to = r.cell(&s.Target[0])
			}
			r.enter(&r.prog.Funcs[s.Func], r.values(s.Exprs), to)
		}},
		"return": {func(s *api.Stmt) {
			var v uint64
			if len(s.Exprs) > 0 {
				v = r.value(&s.Exprs[0])
			}
			r.back(v)
		}},
		"if": {func(s *api.Stmt) {
			if r.holds(s) {
				r.open(s.Then)
			} else {
				r.open(s.Else)
			}
		}},
		"while": {func(s *api.Stmt) {
			if r.holds(s) {
				// It is next once more: so asking again is begun, and counts, like any other step.
				r.block.next--
				r.open(s.Then)
			}
		}},
		"assert": {func(s *api.Stmt) { need(r.holds(s), api.EndAssert, s.Line, s.Col) }},
		"assume": {func(s *api.Stmt) { need(r.holds(s), api.EndAssume, s.Line, s.Col) }},
	}
}

// holds is whether what a statement asks is so.
func (r *runner) holds(s *api.Stmt) bool { return r.value(&s.Exprs[0]) != 0 }

func (r *runner) open(l []api.Stmt) { r.block = &block{list: l, outer: r.block} }

// enter begins a call; what it returns goes to a variable, if there is one.
func (r *runner) enter(f *api.Func, args []uint64, to *uint64) {
	vars := make([]uint64, len(f.Vars))
	copy(vars, args)
	r.call = &call{vars, to, r.block, r.call}
	r.open(f.Body)
}

// leave goes on behind the innermost block; a function that comes to its end without a return returns 0.
func (r *runner) leave() {
	outer := r.block.outer
	if outer == r.call.outer {
		r.back(0)
		return
	}
	r.block = outer
}

// back ends the innermost call, with all blocks of it.
func (r *runner) back(v uint64) {
	c := r.call
	r.block, r.call = c.outer, c.caller
	if c.to != nil {
		*c.to = v
	}
}
