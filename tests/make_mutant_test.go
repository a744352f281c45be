package tests

import (
	"sync"

	"loop.example/refcountml/impl"
)

// cloneBlock returns a block of its own.
func cloneBlock(b impl.Block) impl.Block {
	out := impl.Block{Result: b.Result}
	for _, s := range b.Steps {
		one := into(st(s.Op, s.Num, append([]int{}, s.Args...)...), s.Into)
		for _, kid := range s.Kids {
			one.Kids = append(one.Kids, cloneBlock(kid))
		}
		out.Steps = append(out.Steps, one)
	}
	return out
}

// blocksIn returns a block and all those in it, to be changed there.
func blocksIn(b *impl.Block) []*impl.Block {
	out := []*impl.Block{b}
	for i := range b.Steps {
		for k := range b.Steps[i].Kids {
			out = append(out, blocksIn(&b.Steps[i].Kids[k])...)
		}
	}
	return out
}

// withStep returns steps with one more before the step k.
func withStep(steps []impl.Step, k int, s impl.Step) []impl.Step {
	var out []impl.Step
	out = append(out, steps[:k]...)
	out = append(out, s)
	return append(out, steps[k:]...)
}

// withoutStep returns steps without the step k.
func withoutStep(steps []impl.Step, k int) []impl.Step {
	var out []impl.Step
	out = append(out, steps[:k]...)
	return append(out, steps[k+1:]...)
}

// change changes something in a block, mostly a counting step; what comes out may not be valid.
func (m *maker) change(b *impl.Block) {
	k := m.pick(len(b.Steps) + 1)
	if k == len(b.Steps) || m.pick(4) == 0 {
		b.Steps = withStep(b.Steps, k, st(impl.OpDup+m.pick(4), 0, m.pick(6)))
		return
	}
	s := b.Steps[k]
	if s.Op < impl.OpDup {
		m.changeOther(b, k)
		return
	}
	switch m.pick(5) {
	case 0:
		b.Steps = withoutStep(b.Steps, k)
	case 1:
		b.Steps = withStep(b.Steps, k, s)
	case 2:
		b.Steps[k].Op = impl.OpDup + m.pick(4)
	case 3:
		b.Steps[k].Args = []int{m.pick(6)}
	case 4:
		b.Steps = withoutStep(b.Steps, k)
		b.Steps = withStep(b.Steps, m.pick(len(b.Steps)+1), s)
	}
}

// changeOther changes something in a block at a step that is no counting step.
func (m *maker) changeOther(b *impl.Block, k int) {
	switch m.pick(4) {
	case 0:
		if k > 0 && b.Steps[k-1].Op >= impl.OpDup {
			other := b.Steps[k-1]
			b.Steps = withStep(withoutStep(b.Steps, k-1), k, other)
		}
	case 1:
		if b.Steps[k].Op == impl.OpCon {
			b.Steps[k].Into = m.pick(6)
		}
	case 2:
		b.Result = m.pick(8)
	case 3:
		if args := b.Steps[k].Args; len(args) > 0 {
			args[m.pick(len(args))] = m.pick(8)
		}
	}
}

// variant is a valid normal form with changes in the body of a routine.
type variant struct {
	n impl.Normal
	f int
}

// variants returns valid normal forms that are balanced, or nearly so, made only once.
var variants = sync.OnceValue(makeVariants)

// makeVariants makes them.
func makeVariants() []variant {
	var out []variant
	m := maker{seed: 311}
	for _, n := range balancedForms() {
		for try := 0; try < 14; try++ {
			f := m.pick(len(n.Routines))
			body := cloneBlock(n.Routines[f].Body)
			for changes := 1 + m.pick(3); changes > 0; changes-- {
				blocks := blocksIn(&body)
				m.change(blocks[m.pick(len(blocks))])
			}
			if other := withBlock(n, f, body); impl.ValidNormal(other) {
				out = append(out, variant{other, f})
			}
		}
	}
	return out
}
