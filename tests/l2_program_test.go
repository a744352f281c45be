package tests

import (
	"testing"

	"loop.example/refcountml/impl"
)

// nodeCount returns what NodesOf should of an expression with an end.
func nodeCount(e impl.Expr) int {
	if n := nodesOf(e); n <= impl.MaxNodes {
		return n
	}
	return -1
}

func TestP12NodesAreCountedOneByOne(t *testing.T) {
	for _, e := range rawExprs() {
		if impl.NodesOf(e) != nodeCount(e) {
			t.Fatalf("NodesOf(%v) = %d", e, impl.NodesOf(e))
		}
		if nodesOf(e) > impl.MaxNodes {
			continue
		}
		sum := 1
		for _, kid := range e.Kids {
			sum += impl.NodesOf(kid)
		}
		if impl.NodesOf(e) != sum {
			t.Fatalf("NodesOf(%v) = %d, and its kids have %d", e, impl.NodesOf(e), sum-1)
		}
	}
}

func TestP13ExpressionsCanBeTooLarge(t *testing.T) {
	for _, e := range rawExprs() {
		n := impl.NodesOf(e)
		if n < 0 {
			continue
		}
		want := 2*n + 1
		if want > impl.MaxNodes {
			want = -1
		}
		if twice := impl.NodesOf(add(e, e)); twice != want {
			t.Fatalf("NodesOf twice %v = %d", e, twice)
		}
	}
}

func TestNodesOfAtTheLimit(t *testing.T) {
	for n := 1; n <= 70; n++ {
		want := n
		if n > impl.MaxNodes {
			want = -1
		}
		if impl.NodesOf(deep(n)) != want || impl.NodesOf(wide(n)) != want {
			t.Errorf("NodesOf %d nodes = %d and %d", n, impl.NodesOf(deep(n)), impl.NodesOf(wide(n)))
		}
	}
	if impl.NodesOf(add(deep(14), deep(15))) != 30 || impl.NodesOf(add(deep(15), deep(15))) != -1 {
		t.Error("NodesOf a sum at the limit")
	}
	if impl.NodesOf(deep(100000)) != -1 || impl.NodesOf(wide(100000)) != -1 || impl.NodesOf(doubled(62)) != -1 || impl.NodesOf(endless()) != -1 {
		t.Error("NodesOf much too large expressions")
	}
}

// badSigs returns programs with signatures that are not valid, each for one reason.
func badSigs() []impl.Program {
	out := []impl.Program{
		{},
		{Decls: lists()},
		{Funcs: []impl.Func{{}, {}, {}, {}, {}}},
		{Funcs: []impl.Func{{Params: []int{0}}}},
		{Decls: lists(), Funcs: []impl.Func{{Result: 1}}},
		{Funcs: []impl.Func{{Result: 1}}},
		{Funcs: []impl.Func{{}, {Params: []int{0, 0, 0, 0}}}},
		{Funcs: []impl.Func{{}, {Params: []int{1}}}},
		{Funcs: []impl.Func{{}, {Params: []int{0, 0, -1}}}},
		{Funcs: []impl.Func{{}, {}, {Result: -1}}},
		{Decls: lists(), Funcs: []impl.Func{{}, {}, {}, {Result: 2}}},
	}
	for _, decls := range badDecls() {
		out = append(out, impl.Program{Decls: decls, Funcs: []impl.Func{{}}})
	}
	return out
}

func TestValidSigs(t *testing.T) {
	for _, p := range badSigs() {
		if impl.ValidSigs(p) {
			t.Errorf("ValidSigs(%v) = true", p)
		}
	}
	good := append(signatures(), ruleProgram(),
		impl.Program{Funcs: []impl.Func{{}}},
		impl.Program{Decls: lists(), Funcs: []impl.Func{{}, {Params: []int{1, 1, 1}, Result: 1}, {Params: []int{0, 0, 0}}, {Result: 1}}},
	)
	for _, p := range good {
		if !impl.ValidSigs(p) {
			t.Errorf("ValidSigs(%v) = false", p)
		}
	}
}

// withBodies returns a program with one expression as all bodies.
func withBodies(p impl.Program, e impl.Expr) impl.Program {
	out := impl.Program{Decls: p.Decls}
	for _, f := range p.Funcs {
		out.Funcs = append(out.Funcs, impl.Func{Params: f.Params, Result: f.Result, Body: e})
	}
	return out
}

// withBody returns a program with another body of one function.
func withBody(p impl.Program, f int, e impl.Expr) impl.Program {
	out := impl.Program{Decls: p.Decls}
	out.Funcs = append(out.Funcs, p.Funcs...)
	out.Funcs[f].Body = e
	return out
}

func TestP14SignaturesDoNotTellOfBodies(t *testing.T) {
	bodies := []impl.Expr{{}, v(7), deep(31), endless(), ex(-5, -5)}
	for _, p := range programs() {
		if !impl.ValidSigs(p) {
			t.Fatalf("ValidSigs(%v) = false", p)
		}
		for _, e := range bodies {
			if !impl.ValidSigs(withBodies(p, e)) {
				t.Fatalf("ValidSigs of %v with other bodies = false", p)
			}
		}
	}
	for _, p := range badSigs() {
		for _, e := range bodies {
			if impl.ValidSigs(withBodies(p, e)) {
				t.Fatalf("ValidSigs of %v with other bodies = true", p)
			}
		}
	}
}

// rule is an expression and the type that it should have; -1 for none.
type rule struct {
	e impl.Expr
	t int
}

// checkRules tries expressions in the scope of a list, three closures and integers of ruleProgram.
func checkRules(t *testing.T, rules []rule) {
	t.Helper()
	p := ruleProgram()
	vars := []int{0, 1, 2, 3, 4}
	for _, r := range rules {
		if of := impl.TypeOf(p, vars, r.e); of != r.t {
			t.Errorf("TypeOf(%v) = %d, want %d", r.e, of, r.t)
		}
	}
}

func TestTypesOfConstantsAndVariables(t *testing.T) {
	checkRules(t, []rule{
		{num(0), 0}, {num(999), 0}, {num(-999), 0}, {num(1000), -1}, {num(-1000), -1},
		{ex(impl.OpInt, 1, num(1)), -1},
		{v(0), 0}, {v(1), 1}, {v(2), 2}, {v(4), 4}, {v(5), -1}, {v(-1), -1}, {v(99), -1}, {v(1 << 62), -1}, {v(-1 << 63), -1},
		{ex(impl.OpVar, 0, num(1)), -1},
		{ex(-1, 0), -1}, {ex(14, 0, v(1)), -1}, {ex(15, 0, v(1)), -1}, {ex(18, 0, v(0)), -1}, {ex(1<<62, 0), -1}, {ex(-1<<63, 0), -1},
	})
}

func TestTypesOfArithmetic(t *testing.T) {
	for _, op := range []int{impl.OpAdd, impl.OpSub, impl.OpMul, impl.OpLess} {
		checkRules(t, []rule{
			{ex(op, 0, num(1), v(0)), 0},
			{ex(op, 1, num(1), num(2)), -1}, {ex(op, -1, num(1), num(2)), -1},
			{ex(op, 0), -1}, {ex(op, 0, num(1)), -1}, {ex(op, 0, num(1), num(2), num(3)), -1},
			{ex(op, 0, v(1), num(2)), -1}, {ex(op, 0, num(1), v(2)), -1}, {ex(op, 0, v(9), num(2)), -1}, {ex(op, 0, num(1), v(9)), -1},
		})
	}
	checkRules(t, []rule{
		{ex(impl.OpPrint, 0, num(1)), 0}, {ex(impl.OpPrint, 1, num(1)), -1}, {ex(impl.OpPrint, 0), -1},
		{ex(impl.OpPrint, 0, num(1), num(2)), -1}, {ex(impl.OpPrint, 0, v(1)), -1}, {ex(impl.OpPrint, 0, v(5)), -1},
	})
}

func TestTypesOfConstructors(t *testing.T) {
	checkRules(t, []rule{
		{ex(impl.OpCon, 0), 1}, {ex(impl.OpCon, 1, num(1), v(1)), 1}, {ex(impl.OpCon, 2), 4},
		{ex(impl.OpCon, 3, v(0), v(1), v(2)), 4}, {ex(impl.OpCon, 4, v(4)), 4}, {list(1, 2, 3), 1},
		{ex(impl.OpCon, 5), -1}, {ex(impl.OpCon, -1), -1}, {ex(impl.OpCon, 1<<62), -1},
		{ex(impl.OpCon, 0, num(1)), -1}, {ex(impl.OpCon, 1, num(1)), -1}, {ex(impl.OpCon, 1, v(1), num(1)), -1},
		{ex(impl.OpCon, 1, num(1), v(1), v(1)), -1}, {ex(impl.OpCon, 3, v(0), v(1), v(3)), -1}, {ex(impl.OpCon, 4, v(1)), -1},
		{ex(impl.OpCon, 1, num(1), v(5)), -1},
	})
}

func TestTypesOfBindingsAndChoices(t *testing.T) {
	checkRules(t, []rule{
		{let(v(1), v(5)), 1}, {let(v(3), num(1)), 0}, {let(v(4), let(v(5), v(6))), 4}, {let(num(1), v(6)), -1}, {let(v(5), num(1)), -1},
		{let(let(num(1), v(5)), v(6)), -1}, {add(let(num(1), v(5)), v(5)), -1},
		{ex(impl.OpLet, 1, num(1), num(2)), -1}, {ex(impl.OpLet, 0, num(1)), -1}, {ex(impl.OpLet, 0, num(1), num(2), num(3)), -1}, {ex(impl.OpLet, 0), -1},
		{ex(impl.OpIf, 0, num(1), v(1), list()), 1}, {ex(impl.OpIf, 0, v(0), v(3), v(3)), 3}, {ex(impl.OpIf, 0, v(1), num(1), num(2)), -1},
		{ex(impl.OpIf, 0, num(1), num(1), v(1)), -1}, {ex(impl.OpIf, 0, num(1), v(1), num(1)), -1}, {ex(impl.OpIf, 0, num(1), v(5), v(5)), -1},
		{ex(impl.OpIf, 0, v(5), num(1), num(2)), -1}, {ex(impl.OpIf, 2, num(1), num(1), num(2)), -1}, {ex(impl.OpIf, 0), -1},
		{ex(impl.OpIf, 0, num(1), num(1)), -1}, {ex(impl.OpIf, 0, num(1), num(1), num(1), num(1)), -1},
	})
}

func TestTypesOfMatches(t *testing.T) {
	checkRules(t, []rule{
		{ex(impl.OpMatch, 1, v(1), num(0), v(5)), 0}, {ex(impl.OpMatch, 1, v(1), list(), v(6)), 1},
		{ex(impl.OpMatch, 4, v(4), v(2), v(7), ex(impl.OpClose, 3, num(1), v(1))), 2},
		{ex(impl.OpMatch, 4, v(4), v(4), v(4), v(5)), 4},
		{ex(impl.OpMatch, 1, v(1), num(0), v(6)), -1}, {ex(impl.OpMatch, 1, v(1), v(5), v(5)), -1}, {ex(impl.OpMatch, 1, v(1), num(0), v(7)), -1},
		{ex(impl.OpMatch, 1, v(1), v(6), v(7)), -1},
		{ex(impl.OpMatch, 4, v(1), num(0), num(0), num(0)), -1}, {ex(impl.OpMatch, 1, v(4), num(0), num(0)), -1}, {ex(impl.OpMatch, 1, v(0), num(0), num(0)), -1},
		{ex(impl.OpMatch, 0, num(1), num(0)), -1}, {ex(impl.OpMatch, 0, num(1)), -1}, {ex(impl.OpMatch, 2, v(2)), -1}, {ex(impl.OpMatch, 2, v(2), num(0)), -1},
		{ex(impl.OpMatch, 5, v(5), num(0)), -1}, {ex(impl.OpMatch, -1, v(5), num(0)), -1},
		{ex(impl.OpMatch, 1, v(1), num(0)), -1}, {ex(impl.OpMatch, 1, v(1), num(0), num(0), num(0)), -1}, {ex(impl.OpMatch, 1, v(1)), -1}, {ex(impl.OpMatch, 1), -1},
		{ex(impl.OpMatch, 4, v(4), num(0), num(0), v(1)), -1}, {ex(impl.OpMatch, 4, v(4), v(1), num(0), num(0)), -1},
	})
}

func TestTypesOfCallsAndClosures(t *testing.T) {
	checkRules(t, []rule{
		{ex(impl.OpCall, 0), 0}, {ex(impl.OpCall, 1, v(1)), 0}, {ex(impl.OpCall, 2, v(2), v(1)), 1}, {ex(impl.OpCall, 3, num(1), v(1), num(2)), 0},
		{ex(impl.OpCall, 4), -1}, {ex(impl.OpCall, -1), -1}, {ex(impl.OpCall, 0, num(1)), -1}, {ex(impl.OpCall, 1), -1}, {ex(impl.OpCall, 1, num(1)), -1},
		{ex(impl.OpCall, 2, v(1), v(2)), -1}, {ex(impl.OpCall, 3, num(1), v(1)), -1}, {ex(impl.OpCall, 3, num(1), v(1), num(2), num(3)), -1},
		{ex(impl.OpClose, 1), 3}, {ex(impl.OpClose, 3, num(1), v(1)), 2},
		{ex(impl.OpClose, 0), -1}, {ex(impl.OpClose, 2, v(2)), -1}, {ex(impl.OpClose, 2), -1}, {ex(impl.OpClose, 4), -1}, {ex(impl.OpClose, -1), -1},
		{ex(impl.OpClose, 1, v(1)), -1}, {ex(impl.OpClose, 3, num(1)), -1}, {ex(impl.OpClose, 3, v(1), num(1)), -1}, {ex(impl.OpClose, 3, num(1), v(1), num(2)), -1},
		{ex(impl.OpApply, 0, v(2), num(1)), 0}, {ex(impl.OpApply, 0, v(3), v(1)), 0}, {ex(impl.OpApply, 0, ex(impl.OpClose, 1), list()), 0},
		{ex(impl.OpApply, 1, v(2), num(1)), -1}, {ex(impl.OpApply, 0, v(2), v(1)), -1}, {ex(impl.OpApply, 0, v(3), num(1)), -1}, {ex(impl.OpApply, 0, v(1), num(1)), -1},
		{ex(impl.OpApply, 0, num(1), num(1)), -1}, {ex(impl.OpApply, 0, v(5), num(1)), -1}, {ex(impl.OpApply, 0, v(2), v(5)), -1},
		{ex(impl.OpApply, 0, v(2)), -1}, {ex(impl.OpApply, 0), -1}, {ex(impl.OpApply, 0, v(2), num(1), num(1)), -1},
	})
}

// An arrow type that stands for a function is looked for with the number of the type, not of the function.
func TestTypesOfArrowsThatReturnArrows(t *testing.T) {
	p := impl.Program{
		Decls: []impl.Decl{arrow(0, 2), arrow(0, 0)},
		Funcs: []impl.Func{{}, {Params: []int{0}, Result: 2}, {Params: []int{0, 0}}},
	}
	makes := ex(impl.OpClose, 1)
	if impl.TypeOf(p, nil, makes) != 1 || impl.TypeOf(p, nil, ex(impl.OpApply, 0, makes, num(1))) != 2 {
		t.Error("TypeOf of a closure that returns closures")
	}
	if impl.TypeOf(p, nil, ex(impl.OpApply, 0, ex(impl.OpApply, 0, makes, num(1)), num(2))) != 0 {
		t.Error("TypeOf of a closure that is called at once")
	}
}

func TestTypeOfInvalidArguments(t *testing.T) {
	for _, p := range badSigs() {
		if impl.TypeOf(p, nil, num(1)) != -1 || impl.TypeOf(p, []int{0}, v(0)) != -1 {
			t.Errorf("TypeOf in %v is a type", p)
		}
	}
	p := ruleProgram()
	for _, vars := range [][]int{{-1}, {5}, {0, 1, 2, 3, 4, 5}, {0, 0, -1}} {
		if impl.TypeOf(p, vars, num(1)) != -1 {
			t.Errorf("TypeOf with the variables %v is a type", vars)
		}
	}
	many := make([]int, 100000)
	if impl.TypeOf(p, many, v(99999)) != 0 || impl.TypeOf(p, many, let(v(0), v(100000))) != 0 || impl.TypeOf(p, many, v(100000)) != -1 {
		t.Error("TypeOf with many variables")
	}
	for n := 28; n <= 33; n++ {
		want := 0
		if n > impl.MaxNodes {
			want = -1
		}
		if of := impl.TypeOf(p, nil, deep(n)); of != want {
			t.Errorf("TypeOf %d nodes = %d", n, of)
		}
	}
	if impl.TypeOf(p, nil, endless()) != -1 || impl.TypeOf(p, []int{0}, doubled(60)) != -1 || impl.TypeOf(p, []int{0}, wide(100000)) != -1 {
		t.Error("TypeOf much too large expressions")
	}
}

func TestTypesOfSamples(t *testing.T) {
	for _, s := range samples() {
		if of := impl.TypeOf(s.p, s.vars, s.e); of != s.t {
			t.Fatalf("TypeOf(%v, %v, %v) = %d, want %d", s.p, s.vars, s.e, of, s.t)
		}
	}
}

func TestP15TypesAreKeptWhenVariablesComeAfter(t *testing.T) {
	for _, s := range samples() {
		for more := 0; more <= len(s.p.Decls); more++ {
			e, ok := impl.Shift(s.e, len(s.vars), 1)
			if of := impl.TypeOf(s.p, scopeWith(s.vars, more), e); !ok || of != s.t {
				t.Fatalf("TypeOf %v with a variable more = %d, want %d", s.e, of, s.t)
			}
		}
	}
}

func TestP16TypesAreKeptWhenVariablesComeBefore(t *testing.T) {
	for _, s := range samples() {
		for more := 0; more <= len(s.p.Decls); more++ {
			e, ok := impl.Shift(s.e, 0, 1)
			if of := impl.TypeOf(s.p, scopeWith([]int{more}, s.vars...), e); !ok || of != s.t {
				t.Fatalf("TypeOf %v with a first variable more = %d, want %d", s.e, of, s.t)
			}
		}
	}
}

// orTooLarge returns the type t, or -1, if an expression has too many nodes for any type.
func orTooLarge(e impl.Expr, t int) int {
	if nodesOf(e) > impl.MaxNodes {
		return -1
	}
	return t
}

func TestP17WhatIsBoundHasItsType(t *testing.T) {
	for _, s := range samples() {
		e := let(s.e, v(len(s.vars)))
		if of := impl.TypeOf(s.p, s.vars, e); of != orTooLarge(e, s.t) {
			t.Fatalf("TypeOf(%v) = %d, want %d", e, of, s.t)
		}
	}
}

func TestP18ChoicesHaveTheTypeOfBothSides(t *testing.T) {
	for _, s := range samples() {
		e := ex(impl.OpIf, 0, num(-1), s.e, s.e)
		if of := impl.TypeOf(s.p, s.vars, e); of != orTooLarge(e, s.t) {
			t.Fatalf("TypeOf(%v) = %d, want %d", e, of, s.t)
		}
		for other := 1; other <= len(s.p.Decls); other++ {
			vars := scopeWith([]int{other}, s.vars...)
			shifted, _ := impl.Shift(s.e, 0, 1)
			if of := impl.TypeOf(s.p, vars, ex(impl.OpIf, 0, v(0), shifted, shifted)); of != -1 {
				t.Fatalf("TypeOf a choice by the type %d = %d", other, of)
			}
		}
	}
}

func TestP19BodiesHaveTheTypesOfResults(t *testing.T) {
	for _, p := range programs() {
		if !impl.ValidProgram(p) {
			t.Fatalf("ValidProgram(%v) = false", p)
		}
		for f, one := range p.Funcs {
			if of := impl.TypeOf(p, one.Params, one.Body); of != one.Result {
				t.Fatalf("TypeOf the body %d of %v = %d", f, p, of)
			}
		}
	}
}

// badPrograms returns programs that are not valid.
func badPrograms() []impl.Program {
	out := badSigs()
	for _, p := range []impl.Program{sumProgram(), mapProgram(), ruleProgram()} {
		for f := range p.Funcs {
			out = append(out, withBody(p, f, v(9)), withBody(p, f, deep(31)), withBody(p, f, endless()))
		}
	}
	wrong := mapProgram()
	wrong.Funcs[1].Result = 1
	less := mapProgram()
	less.Funcs = less.Funcs[:3]
	more := sumProgram()
	more.Funcs[1].Params = []int{1, 1}
	none := sumProgram()
	none.Decls = nil
	return append(out, wrong, less, more, none, withBody(sumProgram(), 1, list()), withBody(mapProgram(), 2, num(1)))
}

func TestInvalidPrograms(t *testing.T) {
	// Some of the programs have no end, and cannot be printed.
	for i, p := range badPrograms() {
		if impl.ValidProgram(p) {
			t.Errorf("ValidProgram of the bad program %d = true", i)
		}
		for f := -1; f <= 5; f++ {
			if len(impl.CalleesOf(p, f)) != 0 || len(impl.ReachedFrom(p, f)) != 0 || len(impl.UnusedParams(p, f)) != 0 {
				t.Errorf("the bad program %d has callees, reached functions or unused parameters", i)
			}
		}
	}
}

func TestProgramsAtLimits(t *testing.T) {
	p := impl.Program{Funcs: []impl.Func{{Body: deep(30)}, {Params: []int{0, 0, 0}, Body: v(2)}, {Body: deep(30)}, {Body: num(-999)}}}
	if !impl.ValidProgram(p) {
		t.Error("ValidProgram at the limits = false")
	}
	if impl.ValidProgram(withBody(p, 2, deep(31))) || impl.ValidProgram(withBody(p, 3, num(-1000))) || impl.ValidProgram(withBody(p, 1, v(3))) {
		t.Error("ValidProgram beyond a limit = true")
	}
}

func TestP20BodiesCanBindWhatTheyDoNotUse(t *testing.T) {
	for _, p := range programs() {
		for f, one := range p.Funcs {
			e, ok := impl.Shift(one.Body, len(one.Params), 1)
			e = let(num(3), e)
			if !ok || impl.ValidProgram(withBody(p, f, e)) != (nodesOf(e) <= impl.MaxNodes) {
				t.Fatalf("ValidProgram of %v with another body of %d", p, f)
			}
		}
	}
}

// names reports whether an expression names a function.
func names(e impl.Expr, f int) bool {
	if (e.Op == impl.OpCall || e.Op == impl.OpClose) && e.Num == f {
		return true
	}
	for _, kid := range e.Kids {
		if names(kid, f) {
			return true
		}
	}
	return false
}

func TestP21CalleesAreFunctionsThatCanBeReached(t *testing.T) {
	for _, p := range programs() {
		for f, one := range p.Funcs {
			callees := impl.CalleesOf(p, f)
			if !ascends(callees) || !partOf(callees, impl.ReachedFrom(p, f)) {
				t.Fatalf("CalleesOf(%v, %d) = %v", p, f, callees)
			}
			for g := -1; g <= impl.MaxFuncs; g++ {
				if has(callees, g) != names(one.Body, g) {
					t.Fatalf("CalleesOf(%v, %d) = %v", p, f, callees)
				}
			}
		}
	}
}

func TestP22ReachedFunctionsAreClosed(t *testing.T) {
	for _, p := range programs() {
		for f := range p.Funcs {
			reached := impl.ReachedFrom(p, f)
			if !has(reached, f) || !ascends(reached) {
				t.Fatalf("ReachedFrom(%v, %d) = %v", p, f, reached)
			}
			for _, g := range reached {
				if !partOf(impl.CalleesOf(p, g), reached) {
					t.Fatalf("ReachedFrom(%v, %d) = %v", p, f, reached)
				}
			}
		}
	}
}

func TestP23WhatIsReachedReachesNoMore(t *testing.T) {
	for _, p := range programs() {
		for f := range p.Funcs {
			reached := impl.ReachedFrom(p, f)
			for _, g := range reached {
				if !partOf(impl.ReachedFrom(p, g), reached) {
					t.Fatalf("ReachedFrom(%v, %d) = %v, but %d reaches %v", p, f, reached, g, impl.ReachedFrom(p, g))
				}
			}
		}
	}
}

// checkReached compares CalleesOf and ReachedFrom of each function with the lists that they should be.
func checkReached(t *testing.T, p impl.Program, callees [][]int, reached [][]int) {
	t.Helper()
	for f := range p.Funcs {
		if list := impl.CalleesOf(p, f); !same(list, callees[f]...) {
			t.Errorf("CalleesOf %d = %v, want %v", f, list, callees[f])
		}
		if list := impl.ReachedFrom(p, f); !same(list, reached[f]...) {
			t.Errorf("ReachedFrom %d = %v, want %v", f, list, reached[f])
		}
	}
	for _, f := range []int{-1, len(p.Funcs), 1000000, -1000000} {
		if len(impl.CalleesOf(p, f)) != 0 || len(impl.ReachedFrom(p, f)) != 0 || len(impl.UnusedParams(p, f)) != 0 {
			t.Errorf("there is a function %d", f)
		}
	}
}

func TestReachedFunctions(t *testing.T) {
	checkReached(t, sumProgram(), [][]int{{1}, {1}}, [][]int{{0, 1}, {1}})
	checkReached(t, mapProgram(), [][]int{{1, 2, 3}, {1}, {2}, nil}, [][]int{{0, 1, 2, 3}, {1}, {2}, {3}})
	checkReached(t, chainProgram(), [][]int{{3}, {2}, {2}, {1}}, [][]int{{0, 1, 2, 3}, {1, 2}, {2}, {1, 2, 3}})
	checkReached(t, tieProgram(), [][]int{nil, {2}, {1}, {1}}, [][]int{{0}, {1, 2}, {1, 2}, {1, 2, 3}})
	self := impl.Program{Funcs: []impl.Func{{Body: ex(impl.OpCall, 0)}}}
	checkReached(t, self, [][]int{{0}}, [][]int{{0}})
}
