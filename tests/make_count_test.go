package tests

import (
	"sort"
	"sync"
	"testing"

	"loop.example/refcountml/impl"
)

// plains returns plain normal forms, with and without Lent, made only once.
var plains = sync.OnceValue(makePlains)

// makePlains makes them.
func makePlains() []impl.Normal {
	var out []impl.Normal
	for _, n := range normals() {
		plain, _ := impl.PlainOf(n)
		out = append(out, plain)
	}
	return out
}

// countedOf returns a plain normal form with precise counts.
func countedOf(t *testing.T, n impl.Normal) impl.Normal {
	t.Helper()
	out, ok := impl.Count(n)
	if !ok {
		t.Fatalf("Count(%v) fails", n)
	}
	return out
}

// lateOf returns a plain normal form with late counts.
func lateOf(t *testing.T, n impl.Normal) impl.Normal {
	t.Helper()
	out, ok := impl.CountLate(n)
	if !ok {
		t.Fatalf("CountLate(%v) fails", n)
	}
	return out
}

// withBodiesOf returns a normal form with other bodies of all routines.
func withBodiesOf(n impl.Normal, change func(r impl.Routine) impl.Block) impl.Normal {
	out := impl.Normal{Decls: n.Decls}
	for _, r := range n.Routines {
		r.Body = change(r)
		out.Routines = append(out.Routines, r)
	}
	return out
}

// context is what is known of the place of a step: the types of the variables in scope.
type context struct {
	n     impl.Normal
	types []int
}

// with returns a context with further variables.
func (c context) with(types ...int) context {
	return context{n: c.n, types: scopeWith(c.types, types...)}
}

// defined returns the type of what a valid step defines; for a choice the one of its first kid.
func (c context) defined(s impl.Step) int {
	return impl.BlockType(c.n, c.types, block(len(c.types), s))
}

// fieldsAt returns the types of the fields that each kid of a step binds.
func (c context) fieldsAt(s impl.Step) [][]int {
	out := make([][]int, len(s.Kids))
	if s.Op == impl.OpMatch {
		for k, con := range impl.ConsOf(c.n.Decls, s.Num) {
			out[k] = impl.ConFields(c.n.Decls, con)
		}
	}
	return out
}

// handed returns the arguments of a step that are consumed, and those that are lent.
func (c context) handed(s impl.Step) (consumed []int, lent []int) {
	if s.Op != impl.OpCon && s.Op != impl.OpCall && s.Op != impl.OpClose && s.Op != impl.OpApply {
		return nil, nil
	}
	for place, v := range s.Args {
		switch {
		case c.types[v] == 0:
		case s.Op == impl.OpCall && has(c.n.Routines[s.Num].Lent, place):
			lent = append(lent, v)
		default:
			consumed = append(consumed, v)
		}
	}
	return consumed, lent
}

// precise is a second way to put in precise counts: sets are marks of variables.
type precise struct {
	context
	owned map[int]bool
}

// dup and drop are counting steps.
func dup(v int) impl.Step  { return st(impl.OpDup, 0, v) }
func drop(v int) impl.Step { return st(impl.OpDrop, 0, v) }

// preciseMeaning returns what Count should, without a limit for steps.
func preciseMeaning(n impl.Normal) impl.Normal {
	return withBodiesOf(n, func(r impl.Routine) impl.Block {
		m := precise{context{n, r.Params}, make(map[int]bool)}
		used := make(map[int]int)
		usedNumbers(r.Body, 0, used)
		var first []impl.Step
		for v, of := range r.Params {
			if of != 0 && !has(r.Lent, v) {
				if used[v] > 0 {
					m.owned[v] = true
				} else {
					first = append(first, drop(v))
				}
			}
		}
		return m.block(first, r.Body, make(map[int]bool))
	})
}

// needed returns what is needed after the step k of a block.
func (m *precise) needed(b impl.Block, k int, after map[int]bool) map[int]bool {
	counts := make(map[int]int)
	usedNumbers(b, k+1, counts)
	out := make(map[int]bool)
	for v := range counts {
		out[v] = true
	}
	for v := range after {
		out[v] = true
	}
	return out
}

// block returns a block with counting steps and what comes first in it.
func (m *precise) block(first []impl.Step, b impl.Block, after map[int]bool) impl.Block {
	out := impl.Block{Steps: first, Result: b.Result}
	for k, s := range b.Steps {
		needed := m.needed(b, k, after)
		if len(s.Kids) > 0 {
			out.Steps = append(out.Steps, m.choice(s, needed))
		} else {
			out.Steps = append(out.Steps, m.around(s, needed)...)
		}
		of := m.defined(s)
		v := len(m.types)
		m.context = m.with(of)
		if of != 0 && needed[v] {
			m.owned[v] = true
		} else if of != 0 {
			out.Steps = append(out.Steps, drop(v))
		}
	}
	if m.types[b.Result] != 0 && (after[b.Result] || !m.owned[b.Result]) {
		out.Steps = append(out.Steps, dup(b.Result))
	}
	return out
}

// around returns a step that does not choose, the OpDup steps before it and the OpDrop steps of what it lends.
func (m *precise) around(s impl.Step, needed map[int]bool) []impl.Step {
	var out []impl.Step
	consumed, lent := m.handed(s)
	for i, v := range consumed {
		if needed[v] || !m.owned[v] || has(lent, v) || has(consumed[i+1:], v) {
			out = append(out, dup(v))
		} else {
			delete(m.owned, v)
		}
	}
	out = append(out, s)
	for v := range m.types {
		if has(lent, v) && m.owned[v] && !needed[v] {
			out = append(out, drop(v))
			delete(m.owned, v)
		}
	}
	return out
}

// choice returns an OpIf or OpMatch step with counting steps in its kids.
func (m *precise) choice(s impl.Step, needed map[int]bool) impl.Step {
	out := st(s.Op, s.Num, s.Args...)
	after := make(map[int]bool)
	for v := range m.types {
		if needed[v] {
			after[v] = true
		}
	}
	for k, fields := range m.fieldsAt(s) {
		inner := precise{m.with(fields...), make(map[int]bool)}
		used := make(map[int]int)
		usedNumbers(s.Kids[k], 0, used)
		var dups, drops []impl.Step
		for v := range inner.types {
			switch {
			case v >= len(m.types) && inner.types[v] != 0 && used[v] > 0:
				dups = append(dups, dup(v))
				inner.owned[v] = true
			case v < len(m.types) && m.owned[v] && (used[v] > 0 || after[v]):
				inner.owned[v] = true
			case v < len(m.types) && m.owned[v]:
				drops = append(drops, drop(v))
			}
		}
		out.Kids = append(out.Kids, inner.block(append(dups, drops...), s.Kids[k], after))
	}
	for v := range m.types {
		if !needed[v] {
			delete(m.owned, v)
		}
	}
	return out
}

// lateMeaning returns what CountLate should, without a limit for steps.
func lateMeaning(n impl.Normal) impl.Normal {
	return withBodiesOf(n, func(r impl.Routine) impl.Block {
		return lateBlock(context{n, r.Params}, nil, r.Body, 0, r.Lent)
	})
}

// lateBlock returns a block with late counts and what comes first in it.
func lateBlock(c context, first []impl.Step, b impl.Block, own int, lent []int) impl.Block {
	out := impl.Block{Steps: first, Result: b.Result}
	for _, s := range b.Steps {
		consumed, _ := c.handed(s)
		for _, v := range consumed {
			out.Steps = append(out.Steps, dup(v))
		}
		one := st(s.Op, s.Num, s.Args...)
		for k, fields := range c.fieldsAt(s) {
			var dups []impl.Step
			for i, of := range fields {
				if of != 0 {
					dups = append(dups, dup(len(c.types)+i))
				}
			}
			one.Kids = append(one.Kids, lateBlock(c.with(fields...), dups, s.Kids[k], len(c.types), nil))
		}
		out.Steps = append(out.Steps, one)
		c = c.with(c.defined(s))
	}
	if c.types[b.Result] != 0 {
		out.Steps = append(out.Steps, dup(b.Result))
	}
	for v, of := range c.types {
		if v >= own && of != 0 && !has(lent, v) {
			out.Steps = append(out.Steps, drop(v))
		}
	}
	return out
}

// cancelMeaning returns what Cancel should make of a block.
func cancelMeaning(b impl.Block) impl.Block {
	out := impl.Block{Result: b.Result}
	more := make(map[int]int)
	put := func() {
		var vars []int
		for v := range more {
			vars = append(vars, v)
		}
		sort.Ints(vars)
		for _, sign := range []int{1, -1} {
			for _, v := range vars {
				for n := sign * more[v]; n > 0; n-- {
					out.Steps = append(out.Steps, st(impl.OpDup+(1-sign)/2, 0, v))
				}
			}
		}
		more = make(map[int]int)
	}
	for _, s := range b.Steps {
		switch s.Op {
		case impl.OpDup:
			more[s.Args[0]]++
		case impl.OpDrop:
			more[s.Args[0]]--
		default:
			put()
			one := into(st(s.Op, s.Num, s.Args...), s.Into)
			for _, kid := range s.Kids {
				one.Kids = append(one.Kids, cancelMeaning(kid))
			}
			out.Steps = append(out.Steps, one)
		}
	}
	put()
	return out
}

// opened takes matched variables apart in all arms of a block where it can: it makes normal forms with OpOpen steps.
func opened(c context, b impl.Block) impl.Block {
	out := impl.Block{Result: b.Result}
	for _, s := range b.Steps {
		one := into(st(s.Op, s.Num, s.Args...), s.Into)
		for k, fields := range c.fieldsAt(s) {
			kid := opened(c.with(fields...), s.Kids[k])
			if len(fields) > 0 {
				kid.Steps = openedPrefix(s.Args[0], len(c.types), fields, kid.Steps)
			}
			one.Kids = append(one.Kids, kid)
		}
		out.Steps = append(out.Steps, one)
		if s.Op < impl.OpDup {
			c = c.with(c.defined(s))
		}
	}
	return out
}

// openedPrefix returns the steps of an arm of x with an OpOpen step among those with which it begins, if x is dropped there.
func openedPrefix(x int, first int, fields []int, steps []impl.Step) []impl.Step {
	end := 0
	for end < len(steps) && (steps[end].Op == impl.OpDup || steps[end].Op == impl.OpDrop) {
		end++
	}
	left := make(map[int]bool)
	dropped := false
	var dups, drops []impl.Step
	for _, s := range steps[:end] {
		v := s.Args[0]
		switch {
		case s.Op == impl.OpDup && v >= first && v < first+len(fields) && !left[v]:
			left[v] = true
		case s.Op == impl.OpDup:
			dups = append(dups, s)
		case v == x && !dropped:
			dropped = true
		default:
			drops = append(drops, s)
		}
	}
	if !dropped {
		return steps
	}
	for i, of := range fields {
		if of != 0 && !left[first+i] {
			drops = append(drops, drop(first+i))
		}
	}
	out := append(dups, st(impl.OpOpen, 0, x))
	return append(append(out, drops...), steps[end:]...)
}

// openedOf returns a balanced normal form in which matched variables are taken apart.
func openedOf(n impl.Normal) impl.Normal {
	return withBodiesOf(n, func(r impl.Routine) impl.Block { return opened(context{n, r.Params}, r.Body) })
}

// kept keeps the cells of variables that are taken apart in a block, where the next OpCon step can use them; changed are the variables of the arms around it for which that has been done.
func kept(c context, b impl.Block, changed []int) impl.Block {
	out := impl.Block{Result: b.Result}
	for _, s := range b.Steps {
		one := into(st(s.Op, s.Num, s.Args...), s.Into)
		for k, fields := range c.fieldsAt(s) {
			kid, done := s.Kids[k], false
			if s.Op == impl.OpMatch && !has(changed, s.Args[0]) {
				kid, done = keptIn(s.Args[0], len(fields), kid)
			}
			inner := changed
			if done {
				inner = scopeWith(changed, s.Args[0])
			}
			one.Kids = append(one.Kids, kept(c.with(fields...), kid, inner))
		}
		out.Steps = append(out.Steps, one)
		if s.Op < impl.OpDup {
			c = c.with(c.defined(s))
		}
	}
	return out
}

// keptIn returns an arm of x that keeps its cell for an OpCon step, and true, if it can.
func keptIn(x int, fields int, b impl.Block) (impl.Block, bool) {
	out := impl.Block{Steps: append([]impl.Step{}, b.Steps...), Result: b.Result}
	open, k := -1, 0
	for k < len(out.Steps) && out.Steps[k].Op >= impl.OpDup {
		if open < 0 && out.Steps[k].Op == impl.OpOpen && out.Steps[k].Args[0] == x {
			open = k
		}
		k++
	}
	for ; open >= 0 && k < len(out.Steps); k++ {
		if s := out.Steps[k]; s.Op == impl.OpCon && s.Into == 0 && len(s.Args) == fields {
			out.Steps[open] = st(impl.OpReuse, 0, x)
			out.Steps[k] = into(s, 1+x)
			return out, true
		}
	}
	return b, false
}

// keptOf returns a balanced normal form in which cells are kept.
func keptOf(n impl.Normal) impl.Normal {
	return withBodiesOf(n, func(r impl.Routine) impl.Block { return kept(context{n, r.Params}, r.Body, nil) })
}

// balancedForms returns balanced normal forms, with counting steps of all kinds, made only once.
var balancedForms = sync.OnceValue(makeBalancedForms)

// makeBalancedForms makes them.
func makeBalancedForms() []impl.Normal {
	var out []impl.Normal
	for i, n := range plains() {
		counted, fine := impl.Count(n)
		late, well := impl.CountLate(n)
		if !fine || !well {
			continue
		}
		taken := openedOf(counted)
		held := keptOf(taken)
		out = append(out, counted, late)
		if text(taken) != text(counted) {
			out = append(out, taken)
		}
		if text(held) != text(taken) {
			out = append(out, held)
		}
		if i%3 == 0 {
			// The late drops are at the end of a block, where nothing is taken apart; pairs at its beginning are more to cancel.
			out = append(out, withBodiesOf(held, func(r impl.Routine) impl.Block { return paired(r, held) }))
		}
	}
	return out
}

// paired returns the body of a routine with pairs of counting steps of a parameter at its beginning.
func paired(r impl.Routine, n impl.Normal) impl.Block {
	out := impl.Block{Result: r.Body.Result}
	for v, of := range r.Params {
		if of != 0 {
			out.Steps = append(out.Steps, dup(v), dup(v), drop(v))
		}
	}
	for v, of := range r.Params {
		if of != 0 {
			out.Steps = append(out.Steps, drop(v))
		}
	}
	out.Steps = append(out.Steps, r.Body.Steps...)
	return out
}

// The promises say little if the balanced normal forms are all alike.
func TestBalancedFormsHaveAllSteps(t *testing.T) {
	marks := make(map[int]int)
	all := balancedForms()
	for _, n := range all {
		if !impl.ValidNormal(n) {
			t.Fatalf("ValidNormal(%v) = false", n)
		}
		for _, r := range n.Routines {
			markSteps(r.Body, marks)
		}
	}
	for op := -1; op <= impl.OpReuse; op++ {
		if op != impl.OpVar && op != impl.OpLet && marks[op] < 50 {
			t.Errorf("only %d steps have the operation %d", marks[op], op)
		}
	}
	if len(all) < 2*len(plains())-10 {
		t.Errorf("only %d normal forms can be counted", len(all))
	}
}
