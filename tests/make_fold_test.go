package tests

import (
	"sync"
	"testing"

	"loop.example/refcountml/impl"
)

// foldable returns an expression of the type t in a scope, mostly one of which something is known.
func (m *maker) foldable(vars []int, t int, depth int) impl.Expr {
	if depth <= 0 {
		return m.small(vars, t)
	}
	switch m.pick(14) {
	case 0:
		return ex(impl.OpIf, 0, m.foldable(hidden(vars), 0, m.pick(2)), m.foldable(vars, t, depth-1), m.foldable(vars, t, depth-1))
	case 1, 2, 3:
		return m.knownMatch(vars, t, depth-1)
	case 4, 5:
		return m.knownApply(vars, t, depth-1)
	case 6:
		bound := m.pick(len(m.p.Decls) + 1)
		return let(m.foldable(vars, bound, depth-1), m.foldable(scopeWith(vars, bound), t, depth-1))
	case 7, 8, 9, 10:
		f := m.pick(len(m.p.Funcs))
		if m.p.Funcs[f].Result == t {
			return ex(impl.OpCall, f, m.foldables(vars, m.p.Funcs[f].Params, depth-1)...)
		}
	case 11:
		return m.typed(vars, t, depth)
	}
	if t > 0 {
		return m.made(vars, t, depth)
	}
	if op := impl.OpAdd + m.pick(5); op != impl.OpPrint {
		return ex(op, 0, m.foldable(vars, 0, depth-2), m.foldable(vars, 0, depth-2))
	}
	return ex(impl.OpPrint, 0, m.foldable(vars, 0, depth-1))
}

// hidden returns a scope of as many variables, none of which can be used.
func hidden(vars []int) []int {
	var out []int
	for range vars {
		out = append(out, -1)
	}
	return out
}

// foldables returns an expression of each of some types.
func (m *maker) foldables(vars []int, types []int, depth int) []impl.Expr {
	var out []impl.Expr
	for _, t := range types {
		out = append(out, m.foldable(vars, t, depth-m.pick(2)))
	}
	return out
}

// knownMatch returns an OpMatch of a constructor, or what is made, if a type without any is picked.
func (m *maker) knownMatch(vars []int, t int, depth int) impl.Expr {
	of := m.pick(len(m.p.Decls) + 1)
	cons := impl.ConsOf(m.p.Decls, of)
	if len(cons) == 0 {
		return m.made(vars, t, depth)
	}
	c := m.pickOf(cons)
	out := ex(impl.OpMatch, of, ex(impl.OpCon, c, m.foldables(vars, impl.ConFields(m.p.Decls, c), depth-1)...))
	for _, other := range cons {
		inner := scopeWith(vars, impl.ConFields(m.p.Decls, other)...)
		if other == c {
			out.Kids = append(out.Kids, m.foldable(inner, t, depth-1))
		} else {
			out.Kids = append(out.Kids, m.small(inner, t))
		}
	}
	return out
}

// knownApply returns an OpApply of OpClose, or what is made, if there is no function for it.
func (m *maker) knownApply(vars []int, t int, depth int) impl.Expr {
	var fit []int
	for f, one := range m.p.Funcs {
		if last := len(one.Params) - 1; last >= 0 && one.Result == t && impl.ArrowOf(m.p.Decls, one.Params[last], t) > 0 {
			fit = append(fit, f)
		}
	}
	if len(fit) == 0 {
		return m.made(vars, t, depth)
	}
	f := m.pickOf(fit)
	kids := m.foldables(vars, m.p.Funcs[f].Params, depth-1)
	last := len(kids) - 1
	return ex(impl.OpApply, 0, ex(impl.OpClose, f, kids[:last]...), kids[last])
}

// foldableOf returns one of some foldable expressions of the type t, the largest one that has at most some nodes.
func (m *maker) foldableOf(vars []int, t int, depth int, nodes int) impl.Expr {
	out := m.made(vars, t, 0)
	for try := 0; try < 12; try++ {
		if e := m.foldable(vars, t, depth); nodesOf(e) <= nodes && nodesOf(e) > nodesOf(out) {
			out = e
		}
	}
	return out
}

// layers returns signatures of programs whose functions can do with those after them.
// What has a closure comes last among the declarations, so that the last function can do without it.
func layers() []impl.Program {
	box := dataOf([]int{0, 0, 0})
	return []impl.Program{
		{Funcs: []impl.Func{{}, {Params: []int{0}}, {Params: []int{0, 0}}, {Params: []int{0, 0, 0}}}},
		{Decls: append(lists(), box, arrow(0, 0)), Funcs: []impl.Func{{}, {Params: []int{1}}, {Params: []int{3, 1}, Result: 1}, {Params: []int{0, 0}}}},
		{Decls: []impl.Decl{box, dataOf(nil, []int{1, 2, 0}, []int{2}), arrow(1, 2)}, Funcs: []impl.Func{{}, {Params: []int{2}, Result: 1}, {Params: []int{1, 3}}, {Params: []int{0, 1}, Result: 2}}},
		{Decls: []impl.Decl{dataOf(nil, nil, []int{0}), dataOf([]int{1, 0, 1}), arrow(0, 0), dataOf([]int{3})}, Funcs: []impl.Func{{}, {Params: []int{1, 2}}, {Result: 1}, {Params: []int{0}}}},
	}
}

// layeredFor returns signatures in which only the functions after f have results, and what the last one cannot make is not declared.
func layeredFor(sigs impl.Program, f int) impl.Program {
	out := impl.Program{Decls: sigs.Decls}
	for g, one := range sigs.Funcs {
		if g <= f {
			one = impl.Func{Result: -1}
		}
		out.Funcs = append(out.Funcs, one)
	}
	if last := len(sigs.Funcs) - 1; f == last {
		for k, d := range sigs.Decls {
			if len(d.Cons) == 0 {
				out.Decls = sigs.Decls[:k]
				break
			}
		}
	}
	return out
}

// foldPrograms returns valid programs with much to fold and to inline, made only once.
var foldPrograms = sync.OnceValue(makeFoldPrograms)

// makeFoldPrograms makes them: some have small bodies that fit into others, some have large ones, and some have functions that call each other.
func makeFoldPrograms() []impl.Program {
	var out []impl.Program
	for i, sigs := range layers() {
		for seed := 0; seed < 120; seed++ {
			p := impl.Program{Decls: sigs.Decls}
			m := &maker{seed: 9000*i + seed}
			nodes := [][]int{{30, 30, 30, 30}, {14, 14, 14, 14}, {16, 9, 9, 9}}[seed%3]
			for f, one := range sigs.Funcs {
				m.p = layeredFor(sigs, f)
				if seed%5 == 0 && f < 3 {
					m.p = sigs
				}
				one.Body = m.foldableOf(one.Params, one.Result, 2+m.pick(4), nodes[f])
				p.Funcs = append(p.Funcs, one)
			}
			out = append(out, p)
		}
	}
	return out
}

// boxProgram has a type with one constructor, which has three fields: where this is matched and known, there is a node more.
func boxProgram() impl.Program {
	return impl.Program{Decls: []impl.Decl{dataOf([]int{0, 0, 0})}, Funcs: []impl.Func{{Body: num(0)}, {Params: []int{0, 0}, Body: v(1)}}}
}

// boxed returns an OpMatch of a known box with some nodes, at least 6.
func boxed(nodes int) impl.Expr {
	return ex(impl.OpMatch, 1, ex(impl.OpCon, 0, num(1), deep(nodes-5), num(3)), num(9))
}

// nestedBoxes returns an OpMatch of a known box in which there is another one, and so on: each of them has five nodes, and the innermost one a node more.
func nestedBoxes(many int) impl.Expr {
	out := num(4)
	for ; many > 0; many-- {
		out = ex(impl.OpMatch, 1, ex(impl.OpCon, 0, out, num(2), num(3)), num(9))
	}
	return out
}

// boxes returns an expression of integers with exactly some nodes, which matches known boxes.
func (m *maker) boxes(vars []int, nodes int) impl.Expr {
	switch {
	case nodes == 1:
		return m.small(vars, 0)
	case nodes == 2:
		return ex(impl.OpPrint, 0, m.boxes(vars, 1))
	case nodes < 6:
		left := 1 + m.pick(nodes-2)
		return ex(impl.OpAdd+m.pick(4), 0, m.boxes(vars, left), m.boxes(vars, nodes-1-left))
	}
	parts := []int{1, 1, 1, 1}
	for left := nodes - 6; left > 0; left-- {
		parts[m.pick(4)]++
	}
	made := ex(impl.OpCon, 0, m.boxes(vars, parts[0]), m.boxes(vars, parts[1]), m.boxes(vars, parts[2]))
	return ex(impl.OpMatch, 1, made, m.boxes(scopeWith(vars, 0, 0, 0), parts[3]))
}

// simplePrograms returns all programs that the promises of folding, inlining and compiling are tried with, made only once.
var simplePrograms = sync.OnceValue(makeSimplePrograms)

// makeSimplePrograms makes them.
func makeSimplePrograms() []impl.Program {
	out := append(append(append([]impl.Program{}, foldPrograms()...), runs()...), listPrograms()[:20]...)
	out = append(out, growProgram(), twiceProgram(), mirrorProgram(), boxProgram())
	for n := 25; n <= 30; n++ {
		out = append(out, withBody(boxProgram(), 0, boxed(n)), withBody(boxProgram(), 1, boxed(n)))
	}
	for seed := 0; seed < 60; seed++ {
		m := &maker{p: boxProgram(), seed: 4400 + seed}
		out = append(out, withBody(withBody(boxProgram(), 0, m.boxes(nil, 15+seed%16)), 1, m.boxes([]int{0, 0}, 30-seed/2)))
	}
	return out
}

func TestFoldProgramsAreOfAllKinds(t *testing.T) {
	known, applied, cyclic, large := 0, 0, 0, 0
	marks := make([]bool, impl.OpLet+1)
	for i, p := range simplePrograms() {
		if !impl.ValidProgram(p) {
			t.Fatalf("the program %d is not valid: %v", i, p)
		}
		other, ok := foldMeaning(p)
		if !ok {
			large++
		} else if text(other) != text(p) {
			known++
		}
		if text(knownMeaning(p)) != text(p) {
			applied++
		}
		for f, one := range p.Funcs {
			marks = opsOf(one.Body, marks)
			if f > 0 && !inlineable(p, f) {
				cyclic++
			}
		}
	}
	for op, there := range marks {
		if !there {
			t.Errorf("no program has the operation %d", op)
		}
	}
	if known < 200 || applied < 100 || cyclic < 20 || large < 5 {
		t.Errorf("of %d programs %d can be folded, %d become too large, %d apply known closures, and %d functions reach themselves", len(simplePrograms()), known, large, applied, cyclic)
	}
}
