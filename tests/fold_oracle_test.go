package tests

import (
	"slices"

	"loop.example/refcountml/impl"
)

// term is an expression whose variables have names, each of which is bound once: nothing is renumbered where it is moved.
// Num of a variable is its name, and binds has for each kid the names of the variables that are bound in it.
type term struct {
	op    int
	num   int
	binds [][]int
	kids  []term
}

// namer makes terms of expressions of a program.
type namer struct {
	p    impl.Program
	last int
}

// names returns new names.
func (m *namer) names(many int) []int {
	var out []int
	for len(out) < many {
		m.last++
		out = append(out, m.last)
	}
	return out
}

// binding returns how many variables a node binds in a kid.
func (m *namer) binding(e impl.Expr, k int) int {
	switch {
	case e.Op == impl.OpLet:
		return []int{0, 1}[k]
	case e.Op == impl.OpMatch && k > 0:
		return len(impl.ConFields(m.p.Decls, impl.ConsOf(m.p.Decls, e.Num)[k-1]))
	}
	return 0
}

// term returns the term of an expression whose variables have names.
func (m *namer) term(scope []int, e impl.Expr) term {
	out := term{op: e.Op, num: e.Num}
	if e.Op == impl.OpVar {
		out.num = scope[e.Num]
	}
	for k, kid := range e.Kids {
		own := m.names(m.binding(e, k))
		out.binds = append(out.binds, own)
		out.kids = append(out.kids, m.term(scopeWith(scope, own...), kid))
	}
	return out
}

// expr returns the expression of a term in a scope of names.
func (t term) expr(scope []int) impl.Expr {
	out := ex(t.op, t.num)
	if t.op == impl.OpVar {
		out.Num = slices.Index(scope, t.num)
	}
	for k, kid := range t.kids {
		out.Kids = append(out.Kids, kid.expr(scopeWith(scope, t.binds[k]...)))
	}
	return out
}

// within returns a term inside of bindings of names to others, the first one outermost.
func (t term) within(names []int, bound []term) term {
	for k := len(bound) - 1; k >= 0; k-- {
		t = term{op: impl.OpLet, binds: [][]int{nil, {names[k]}}, kids: []term{bound[k], t}}
	}
	return t
}

// law tells what takes the place of a term, and whether something does.
type law func(t term) (term, bool)

// once applies a law at the first place where it can be, the outer ones before the inner ones.
func (t term) once(l law) (term, bool) {
	if other, ok := l(t); ok {
		return other, true
	}
	for k, kid := range t.kids {
		if other, ok := kid.once(l); ok {
			t.kids = append([]term{}, t.kids...)
			t.kids[k] = other
			return t, true
		}
	}
	return t, false
}

// byLaw returns a program in whose bodies a law is applied as long as it can be, and whether none of them is too large then.
// The specification goes from inside out instead, and once: the order must not matter.
func (m *namer) byLaw(l law) (impl.Program, bool) {
	out := impl.Program{Decls: m.p.Decls}
	fits := true
	for _, f := range m.p.Funcs {
		params := m.names(len(f.Params))
		t := m.term(params, f.Body)
		for more := true; more; {
			t, more = t.once(l)
		}
		f.Body = t.expr(params)
		fits = fits && nodesOf(f.Body) <= 30
		out.Funcs = append(out.Funcs, f)
	}
	return out, fits
}

// answered returns a program, or the zero value, if it does not fit.
func answered(p impl.Program, fits bool) (impl.Program, bool) {
	if !fits {
		return impl.Program{}, false
	}
	return p, true
}

// foldMeaning returns what Fold should for a valid program.
func foldMeaning(p impl.Program) (impl.Program, bool) {
	m := &namer{p: p}
	return answered(m.byLaw(func(t term) (term, bool) {
		switch {
		case t.op >= impl.OpAdd && t.op <= impl.OpLess && t.kids[0].op == impl.OpInt && t.kids[1].op == impl.OpInt:
			given := (&oracle{}).simple(t.op, 0, []thing{{n: t.kids[0].num}, {n: t.kids[1].num}})
			return term{op: impl.OpInt, num: given.n}, true
		case t.op == impl.OpIf && t.kids[0].op == impl.OpInt && t.kids[0].num == 0:
			return t.kids[2], true
		case t.op == impl.OpIf && t.kids[0].op == impl.OpInt:
			return t.kids[1], true
		case t.op == impl.OpMatch && t.kids[0].op == impl.OpCon:
			k := 1 + arm(p.Decls, t.num, t.kids[0].num)
			return t.kids[k].within(t.binds[k], t.kids[0].kids), true
		}
		return t, false
	}))
}

// knownMeaning returns what KnownCalls should for a valid program.
func knownMeaning(p impl.Program) impl.Program {
	m := &namer{p: p}
	out, _ := m.byLaw(func(t term) (term, bool) {
		if t.op != impl.OpApply || t.kids[0].op != impl.OpClose {
			return t, false
		}
		kids := append(append([]term{}, t.kids[0].kids...), t.kids[1])
		return term{op: impl.OpCall, num: t.kids[0].num, binds: make([][]int, len(kids)), kids: kids}, true
	})
	return out
}

// inlineMeaning returns what Inline should for a function of a valid program.
func inlineMeaning(p impl.Program, f int) (impl.Program, bool) {
	if !inlineable(p, f) {
		return impl.Program{}, false
	}
	m := &namer{p: p}
	return answered(m.byLaw(func(t term) (term, bool) {
		if t.op != impl.OpCall || t.num != f {
			return t, false
		}
		params := m.names(len(t.kids))
		return m.term(params, p.Funcs[f].Body).within(params, t.kids), true
	}))
}

// inlineable returns what MayInline should for a valid program: no way over names leads from the function back to it.
func inlineable(p impl.Program, f int) bool {
	if f < 1 || f >= len(p.Funcs) {
		return false
	}
	// Of each function it is known which ones it comes to by fewer and fewer functions between.
	comes := make([][4]bool, len(p.Funcs))
	for g := range comes {
		for h := range comes {
			comes[g][h] = names(p.Funcs[g].Body, h)
		}
	}
	for by := range comes {
		for g := range comes {
			for h := range comes {
				comes[g][h] = comes[g][h] || comes[g][by] && comes[by][h]
			}
		}
	}
	return !comes[f][f]
}

// nodesWith returns how many nodes of an expression have an operation and a number.
func nodesWith(e impl.Expr, op int, n int) int {
	many := 0
	if e.Op == op && e.Num == n {
		many = 1
	}
	for _, kid := range e.Kids {
		many += nodesWith(kid, op, n)
	}
	return many
}
