package tests

import (
	"fmt"
	"strings"
	"testing"

	"loop.example/refcountml/impl"
)

// st returns a step with arguments.
func st(op int, n int, args ...int) impl.Step {
	return impl.Step{Op: op, Num: n, Args: args}
}

// choice returns a step with kids.
func choice(op int, n int, arg int, kids ...impl.Block) impl.Step {
	return impl.Step{Op: op, Num: n, Args: []int{arg}, Kids: kids}
}

// block returns a block.
func block(result int, steps ...impl.Step) impl.Block {
	return impl.Block{Steps: steps, Result: result}
}

// show returns the text of a block: its steps, with kids in braces, and its Result. Of a block without an end it has the beginning.
func show(b impl.Block) string {
	left := 2000
	return showUpTo(b, &left)
}

// showUpTo returns the text of a block with at most as many steps as are left.
func showUpTo(b impl.Block, left *int) string {
	var out strings.Builder
	for _, s := range b.Steps {
		*left--
		if *left < 0 {
			return out.String() + "..."
		}
		fmt.Fprintf(&out, "%d:%d", s.Op, s.Num)
		if s.Into != 0 {
			fmt.Fprintf(&out, "into%d", s.Into)
		}
		fmt.Fprint(&out, s.Args)
		for _, kid := range s.Kids {
			fmt.Fprintf(&out, "{%s}", showUpTo(kid, left))
		}
		fmt.Fprint(&out, " ")
	}
	fmt.Fprintf(&out, "> %d", b.Result)
	return out.String()
}

// wideBlock returns a block of some steps, none of them with kids, whose Result is the variable 0.
func wideBlock(steps int) impl.Block {
	var out impl.Block
	for n := 0; n < steps; n++ {
		out.Steps = append(out.Steps, st(impl.OpInt, n%7))
	}
	return out
}

// deepBlock returns a block of some steps, each in a kid of the one before, that choose by the variable 0, which is also the Result of all blocks.
func deepBlock(steps int) impl.Block {
	var out impl.Block
	for n := 0; n < steps; n++ {
		out = block(0, choice(impl.OpIf, 0, 0, block(0), out))
	}
	return out
}

// doubledBlock returns a block that has two to the power of depth steps, less 1, in the memory of a few.
func doubledBlock(depth int) impl.Block {
	var out impl.Block
	for n := 0; n < depth; n++ {
		out = block(0, choice(impl.OpIf, 0, 0, out, out))
	}
	return out
}

// endlessBlock returns a block that is a kid of one of its own steps.
func endlessBlock() impl.Block {
	out := block(0, choice(impl.OpIf, 0, 0, block(0), block(0)))
	out.Steps[0].Kids[1] = out
	return out
}

// tooLong returns blocks with too many steps.
func tooLong() []impl.Block {
	return []impl.Block{wideBlock(601), wideBlock(100000), deepBlock(601), deepBlock(5000), doubledBlock(10), doubledBlock(60), endlessBlock()}
}

// stepsIn counts the steps of a block, however many there are.
func stepsIn(b impl.Block) int {
	n := 0
	for _, s := range b.Steps {
		n++
		for _, kid := range s.Kids {
			n += stepsIn(kid)
		}
	}
	return n
}

// rawBlock returns a block that mostly has no type.
func (m *maker) rawBlock(depth int) impl.Block {
	out := impl.Block{Result: m.pick(12) - 2}
	for n := m.pick(6); n > 0; n-- {
		s := st(m.pick(20)-1, m.pick(4)-1)
		s.Into = m.pick(3)
		for k := m.pick(4); k > 0; k-- {
			s.Args = append(s.Args, m.pick(12)-2)
		}
		for k := m.pick(4); k > 0 && depth > 0; k-- {
			s.Kids = append(s.Kids, m.rawBlock(m.pick(depth)))
		}
		out.Steps = append(out.Steps, s)
	}
	return out
}

// rawBlocks returns blocks of all shapes, with and without types, all of them with an end and not too long.
func rawBlocks() []impl.Block {
	out := []impl.Block{{}, wideBlock(600), deepBlock(600), doubledBlock(9), block(-1), block(1<<62, st(impl.OpAdd, 0, -1<<63, 1<<62))}
	m := maker{seed: 91}
	for n := 0; n < 500; n++ {
		out = append(out, m.rawBlock(n%4))
	}
	for _, n := range normals() {
		for _, r := range n.Routines {
			out = append(out, r.Body)
		}
	}
	return out
}

// drafter makes blocks that are valid in a normal form with some signatures.
type drafter struct {
	maker
	n impl.Normal
}

// draft is a block that is made, with the types of the variables in scope.
type draft struct {
	types []int
	steps []impl.Step
}

// add appends a step that defines a variable of the type t, and returns this.
func (d *draft) add(s impl.Step, t int) int {
	d.steps = append(d.steps, s)
	d.types = append(d.types, t)
	return len(d.types) - 1
}

// heapVars returns the variables in scope whose type is not 0, without those of an arrow type, if data alone is asked for.
func (m *drafter) heapVars(d *draft, data bool) []int {
	var out []int
	for v, t := range d.types {
		if t != 0 && (!data || len(m.n.Decls[t-1].Cons) > 0) {
			out = append(out, v)
		}
	}
	return out
}

// have returns a variable of the type t, which is mostly there before.
func (m *drafter) have(d *draft, t int) int {
	var fit []int
	for v, of := range d.types {
		if of == t {
			fit = append(fit, v)
		}
	}
	if len(fit) > 0 && m.pick(4) > 0 {
		return m.pickOf(fit)
	}
	return m.fresh(d, t)
}

// haveAll returns a variable of each of some types.
func (m *drafter) haveAll(d *draft, types []int) []int {
	var out []int
	for _, t := range types {
		out = append(out, m.have(d, t))
	}
	return out
}

// fresh returns a new variable of the type t.
func (m *drafter) fresh(d *draft, t int) int {
	if t == 0 {
		return d.add(st(impl.OpInt, m.pick(9)-4), 0)
	}
	if cons := impl.ConsOf(m.n.Decls, t); len(cons) > 0 {
		return m.construct(d, cons[0])
	}
	return m.enclose(d, t)
}

// construct adds an OpCon step, sometimes with an Into.
func (m *drafter) construct(d *draft, c int) int {
	s := st(impl.OpCon, c, m.haveAll(d, impl.ConFields(m.n.Decls, c))...)
	if heap := m.heapVars(d, false); len(heap) > 0 && m.pick(3) == 0 {
		s.Into = 1 + m.pickOf(heap)
	}
	return d.add(s, impl.ConType(m.n.Decls, c))
}

// closable returns the routines that a closure of an arrow type can be of.
func closable(n impl.Normal, t int) []int {
	var out []int
	for f, r := range n.Routines {
		if p := len(r.Params); p > 0 && len(r.Lent) == 0 && impl.ArrowOf(n.Decls, r.Params[p-1], r.Result) == t {
			out = append(out, f)
		}
	}
	return out
}

// enclose adds an OpClose step.
func (m *drafter) enclose(d *draft, t int) int {
	f := m.pickOf(closable(m.n, t))
	params := m.n.Routines[f].Params
	return d.add(st(impl.OpClose, f, m.haveAll(d, params[:len(params)-1])...), t)
}

// block returns a block of the type t in a scope.
func (m *drafter) block(types []int, t int, depth int) impl.Block {
	d := &draft{types: scopeWith(types)}
	for n := m.pick(5); n > 0; n-- {
		m.step(d, depth)
	}
	result := m.have(d, t)
	for m.pick(3) == 0 {
		m.counting(d)
	}
	return impl.Block{Steps: d.steps, Result: result}
}

// step adds a step of any kind, and what it needs.
func (m *drafter) step(d *draft, depth int) {
	switch m.pick(9) {
	case 0:
		d.add(st(impl.OpAdd+m.pick(4), 0, m.haveAll(d, []int{0, 0})...), 0)
	case 1:
		d.add(st(impl.OpPrint, 0, m.have(d, 0)), 0)
	case 2:
		if all := impl.ConCount(m.n.Decls); all > 0 {
			m.construct(d, m.pick(all))
		}
	case 3, 4:
		m.choose(d, depth)
	case 5, 6:
		f := m.pick(len(m.n.Routines))
		d.add(st(impl.OpCall, f, m.haveAll(d, m.n.Routines[f].Params)...), m.n.Routines[f].Result)
	case 7:
		m.apply(d)
	case 8:
		m.counting(d)
	}
}

// choose adds an OpIf or OpMatch step, if it may have kids.
func (m *drafter) choose(d *draft, depth int) {
	if depth == 0 {
		return
	}
	t := m.pick(len(m.n.Decls) + 1)
	of := m.pick(len(m.n.Decls) + 1)
	cons := impl.ConsOf(m.n.Decls, of)
	s := st(impl.OpIf, 0, m.have(d, 0))
	if len(cons) > 0 {
		s = st(impl.OpMatch, of, m.have(d, of))
	} else {
		s.Kids = []impl.Block{m.block(d.types, t, depth-1), m.block(d.types, t, depth-1)}
	}
	for _, c := range cons {
		s.Kids = append(s.Kids, m.block(scopeWith(d.types, impl.ConFields(m.n.Decls, c)...), t, depth-1))
	}
	d.add(s, t)
}

// apply adds an OpApply step, if there is an arrow type.
func (m *drafter) apply(d *draft) {
	for t, decl := range m.n.Decls {
		if len(decl.Cons) == 0 && m.pick(2) == 0 {
			d.add(st(impl.OpApply, 0, m.haveAll(d, []int{t + 1, decl.From})...), decl.To)
			return
		}
	}
}

// counting adds a counting step, if there is a variable for it.
func (m *drafter) counting(d *draft) {
	op := impl.OpDup + m.pick(4)
	if heap := m.heapVars(d, op >= impl.OpOpen); len(heap) > 0 {
		d.steps = append(d.steps, st(op, 0, m.pickOf(heap)))
	}
}

// lend puts some parameters into Lent, as long as each arrow type has a routine to which nothing is lent.
func (m *drafter) lend() {
	for f := range m.n.Routines {
		r := &m.n.Routines[f]
		for v, t := range r.Params {
			if t != 0 && m.pick(2) == 0 {
				r.Lent = append(r.Lent, v)
			}
		}
		for t, d := range m.n.Decls {
			if len(d.Cons) == 0 && len(closable(m.n, t+1)) == 0 {
				r.Lent = nil
			}
		}
	}
}

// draftedNormal returns a valid normal form that no program needs to have.
func draftedNormal(sigs impl.Program, seed int) impl.Normal {
	m := &drafter{maker: maker{seed: seed}, n: impl.Normal{Decls: sigs.Decls}}
	for _, f := range sigs.Funcs {
		m.n.Routines = append(m.n.Routines, impl.Routine{Params: f.Params, Result: f.Result})
	}
	if seed%3 > 0 {
		m.lend()
	}
	for f, r := range m.n.Routines {
		m.n.Routines[f].Body = m.block(r.Params, r.Result, 1+seed%3)
	}
	return m.n
}

// normals returns valid normal forms, with and without counting steps, Into and Lent.
func normals() []impl.Normal {
	var out []impl.Normal
	for _, p := range programs() {
		n, _ := impl.Normalize(p)
		out = append(out, n)
	}
	for i, sigs := range signatures() {
		for seed := 0; seed < 60; seed++ {
			out = append(out, draftedNormal(sigs, 7000*i+seed))
		}
	}
	return out
}

// markSteps marks the operations of the steps of a block, and counts at -1 the steps with an Into.
func markSteps(b impl.Block, marks map[int]int) {
	for _, s := range b.Steps {
		marks[s.Op]++
		if s.Into != 0 {
			marks[-1]++
		}
		for _, kid := range s.Kids {
			markSteps(kid, marks)
		}
	}
}

// The promises say little if the normal forms that they are tried with are all alike.
func TestNormalsHaveAllSteps(t *testing.T) {
	marks := make(map[int]int)
	lent := 0
	for _, n := range normals() {
		for _, r := range n.Routines {
			markSteps(r.Body, marks)
			lent += len(r.Lent)
		}
	}
	for op := -1; op <= impl.OpReuse; op++ {
		if op != impl.OpVar && op != impl.OpLet && marks[op] < 60 {
			t.Errorf("only %d steps have the operation %d", marks[op], op)
		}
	}
	if lent < 60 {
		t.Errorf("only %d parameters are lent", lent)
	}
}
