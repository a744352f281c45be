package tests

import (
	"testing"

	"loop.example/refcountml/impl"
)

// maker makes expressions by numbers that look random, and are the same in each run.
type maker struct {
	p    impl.Program
	seed int
}

// pick returns a number in 0..n-1.
func (m *maker) pick(n int) int {
	m.seed = (m.seed*1103515245 + 12345) % 2147483648
	return m.seed / 65536 % n
}

// pickOf returns a number of a list that is not empty.
func (m *maker) pickOf(numbers []int) int {
	return numbers[m.pick(len(numbers))]
}

// raw returns an expression that mostly has no type.
func (m *maker) raw(depth int) impl.Expr {
	e := ex(m.pick(27)-1, m.pick(108)-4)
	if m.pick(2) == 0 {
		e.Op = impl.OpVar
		e.Num = m.pick(9) - 1
	}
	if depth == 0 {
		return e
	}
	for k := m.pick(5); k > 0; k-- {
		e.Kids = append(e.Kids, m.raw(m.pick(depth)))
	}
	return e
}

// typed returns an expression of the type t in a scope.
func (m *maker) typed(vars []int, t int, depth int) impl.Expr {
	if depth == 0 {
		return m.small(vars, t)
	}
	switch m.pick(8) {
	case 0, 1:
		return m.made(vars, t, depth-1)
	case 2:
		bound := m.pick(len(m.p.Decls) + 1)
		return let(m.typed(vars, bound, depth-1), m.typed(scopeWith(vars, bound), t, depth-1))
	case 3:
		return ex(impl.OpIf, 0, m.typed(vars, 0, depth-1), m.typed(vars, t, depth-1), m.typed(vars, t, depth-1))
	case 4:
		return m.matched(vars, t, depth-1)
	case 5, 6:
		return m.called(vars, t, depth-1)
	}
	return m.applied(vars, t, depth-1)
}

// small returns an expression of the type t that is not deep.
func (m *maker) small(vars []int, t int) impl.Expr {
	var fit []int
	for i, type1 := range vars {
		if type1 == t {
			fit = append(fit, i)
		}
	}
	if len(fit) > 0 && m.pick(3) > 0 {
		return v(m.pickOf(fit))
	}
	return m.made(vars, t, 0)
}

// made returns an expression that makes a value of the type t; for a depth of 0 the first constructor must not need others of t.
func (m *maker) made(vars []int, t int, depth int) impl.Expr {
	if t == 0 {
		return m.integer(vars, depth)
	}
	cons := impl.ConsOf(m.p.Decls, t)
	if len(cons) == 0 {
		return m.closed(vars, t, depth)
	}
	c := cons[0]
	if depth > 0 {
		c = m.pickOf(cons)
	}
	return ex(impl.OpCon, c, m.kids(vars, impl.ConFields(m.p.Decls, c), depth)...)
}

// kids returns an expression of each of some types.
func (m *maker) kids(vars []int, types []int, depth int) []impl.Expr {
	var out []impl.Expr
	for _, t := range types {
		out = append(out, m.typed(vars, t, max(depth-1, 0)))
	}
	return out
}

// integer returns an expression for an integer.
func (m *maker) integer(vars []int, depth int) impl.Expr {
	if depth == 0 {
		return num(m.pick(1999) - 999)
	}
	op := impl.OpAdd + m.pick(5)
	if op == impl.OpPrint {
		return ex(op, 0, m.typed(vars, 0, depth-1))
	}
	return ex(op, 0, m.typed(vars, 0, depth-1), m.typed(vars, 0, depth-1))
}

// closed returns a closure of an arrow type, for which there must be a function.
func (m *maker) closed(vars []int, t int, depth int) impl.Expr {
	d := m.p.Decls[t-1]
	var fit []int
	for i, f := range m.p.Funcs {
		if len(f.Params) > 0 && f.Params[len(f.Params)-1] == d.From && f.Result == d.To {
			fit = append(fit, i)
		}
	}
	f := m.pickOf(fit)
	params := m.p.Funcs[f].Params
	return ex(impl.OpClose, f, m.kids(vars, params[:len(params)-1], depth)...)
}

// matched returns an OpMatch of some data type, or what is made, if there is none.
func (m *maker) matched(vars []int, t int, depth int) impl.Expr {
	of := m.pick(len(m.p.Decls) + 1)
	cons := impl.ConsOf(m.p.Decls, of)
	if len(cons) == 0 {
		return m.made(vars, t, depth)
	}
	out := ex(impl.OpMatch, of, m.typed(vars, of, depth))
	for _, c := range cons {
		out.Kids = append(out.Kids, m.typed(scopeWith(vars, impl.ConFields(m.p.Decls, c)...), t, depth))
	}
	return out
}

// called returns an OpCall of a function with the Result t, or what is made, if there is none.
func (m *maker) called(vars []int, t int, depth int) impl.Expr {
	f := m.pick(len(m.p.Funcs))
	if m.p.Funcs[f].Result != t {
		return m.made(vars, t, depth)
	}
	return ex(impl.OpCall, f, m.kids(vars, m.p.Funcs[f].Params, depth)...)
}

// applied returns an OpApply of a closure that gives t, or what is made, if there is none.
func (m *maker) applied(vars []int, t int, depth int) impl.Expr {
	of := 1 + m.pick(len(m.p.Decls)+1)
	if of > len(m.p.Decls) || len(m.p.Decls[of-1].Cons) > 0 || m.p.Decls[of-1].To != t {
		return m.made(vars, t, depth)
	}
	return ex(impl.OpApply, 0, m.typed(vars, of, depth), m.typed(vars, m.p.Decls[of-1].From, depth))
}

// fitting returns the largest one of some expressions of the type t that have at most some nodes.
func (m *maker) fitting(vars []int, t int, depth int, nodes int) impl.Expr {
	out := m.made(vars, t, 0)
	for try := 0; try < 12; try++ {
		if e := m.typed(vars, t, depth); nodesOf(e) <= nodes && nodesOf(e) > nodesOf(out) {
			out = e
		}
	}
	return out
}

// scopeWith returns a scope with further variables, in memory of its own.
func scopeWith(vars []int, types ...int) []int {
	var out []int
	out = append(out, vars...)
	return append(out, types...)
}

// nodesOf counts the nodes of an expression, however many there are.
func nodesOf(e impl.Expr) int {
	n := 1
	for _, kid := range e.Kids {
		n += nodesOf(kid)
	}
	return n
}

// signatures returns programs whose functions have no bodies that fit.
func signatures() []impl.Program {
	return []impl.Program{
		{Funcs: []impl.Func{{}, {Params: []int{0}}, {Params: []int{0, 0}}, {Params: []int{0, 0, 0}}}},
		{Decls: lists(), Funcs: []impl.Func{{}, {Params: []int{1}}, {Params: []int{0, 1}, Result: 1}, {Params: []int{1, 1}, Result: 1}}},
		{Decls: mapProgram().Decls, Funcs: []impl.Func{{}, {Params: []int{1}}, {Params: []int{2, 1}, Result: 1}, {Params: []int{0, 0}}}},
		{
			Decls: []impl.Decl{dataOf([]int{0}, []int{1, 0, 1}, nil), arrow(1, 3), arrow(0, 1)},
			Funcs: []impl.Func{{}, {Params: []int{0}, Result: 1}, {Params: []int{1, 0}, Result: 1}, {Params: []int{1}, Result: 3}},
		},
		{
			Decls: []impl.Decl{dataOf([]int{3}, []int{2, 1}), dataOf(nil, []int{1}, []int{0, 4, 2}), arrow(0, 2), arrow(2, 0)},
			Funcs: []impl.Func{{}, {Params: []int{0}, Result: 2}, {Params: []int{1, 2}}},
		},
	}
}

// programs returns valid programs.
func programs() []impl.Program {
	out := []impl.Program{sumProgram(), mapProgram(), chainProgram(), tieProgram(), emptyProgram(), ruleProgram()}
	for i, sigs := range signatures() {
		for seed := 0; seed < 30; seed++ {
			m := maker{p: sigs, seed: 1000*i + seed}
			p := impl.Program{Decls: sigs.Decls}
			for _, f := range sigs.Funcs {
				f.Body = m.fitting(f.Params, f.Result, seed%8, impl.MaxNodes-seed%4)
				p.Funcs = append(p.Funcs, f)
			}
			out = append(out, p)
		}
	}
	return out
}

// sample is an expression that has a type in a scope of a program.
type sample struct {
	p    impl.Program
	vars []int
	e    impl.Expr
	t    int
}

// samples returns expressions that have types.
func samples() []sample {
	var out []sample
	for i, sigs := range signatures() {
		for seed := 0; seed < 160; seed++ {
			m := maker{p: sigs, seed: 5000*i + seed}
			var vars []int
			for n := m.pick(5); n > 0; n-- {
				vars = append(vars, m.pick(len(sigs.Decls)+1))
			}
			t := m.pick(len(sigs.Decls) + 1)
			e := m.fitting(vars, t, m.pick(8), impl.MaxNodes-seed%3)
			out = append(out, sample{p: sigs, vars: vars, e: e, t: t})
		}
	}
	return out
}

// rawExprs returns expressions of all shapes, with and without types, all of them with an end.
func rawExprs() []impl.Expr {
	out := []impl.Expr{{}, deep(30), deep(31), wide(30), wide(31), wide(1000), deep(1000), doubled(4), doubled(10), v(99), v(100), v(-1)}
	m := maker{seed: 77}
	for n := 0; n < 400; n++ {
		out = append(out, m.raw(n%9))
	}
	for _, s := range samples() {
		out = append(out, s.e)
	}
	return out
}

// opsOf marks the operations of an expression, and of its kids.
func opsOf(e impl.Expr, marks []bool) []bool {
	marks[e.Op] = true
	for _, kid := range e.Kids {
		marks = opsOf(kid, marks)
	}
	return marks
}

// The promises say little if what they are tried with is all alike.
func TestSamplesHaveAllOperations(t *testing.T) {
	marks := make([]bool, impl.OpLet+1)
	large := 0
	for _, s := range samples() {
		marks = opsOf(s.e, marks)
		if nodesOf(s.e) > 20 {
			large++
		}
	}
	for op, there := range marks {
		if !there {
			t.Errorf("no sample has the operation %d", op)
		}
	}
	if large < 20 {
		t.Errorf("only %d samples are large", large)
	}
	tooLarge := 0
	for _, e := range rawExprs() {
		if nodesOf(e) > impl.MaxNodes {
			tooLarge++
		}
	}
	if tooLarge < 10 || tooLarge > len(rawExprs())-400 {
		t.Errorf("%d expressions are too large", tooLarge)
	}
}
