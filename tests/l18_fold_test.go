package tests

import (
	"testing"

	"loop.example/refcountml/impl"
)

// simplifying is a body of a function, and the one that there should be then.
type simplifying struct {
	body string
	want string
}

// simpleProgram has lists, boxes with three fields, closures, and a type with three constructors; its function 3 has two integers as parameters.
func simpleProgram() impl.Program {
	return impl.Program{
		Decls: []impl.Decl{dataOf(nil, []int{0, 1}), dataOf([]int{0, 0, 0}), arrow(0, 0), dataOf([]int{3}, nil, []int{1, 4})},
		Funcs: []impl.Func{
			{Body: num(0)}, {Params: []int{0}, Body: ex(impl.OpPrint, 0, v(0))}, {Params: []int{1, 0, 0}, Body: v(2)}, {Params: []int{0, 0}, Body: num(0)},
		},
	}
}

// simplifier is a function that makes another program of one.
type simplifier func(p impl.Program) (impl.Program, bool)

// checkSimplifyings tries bodies of the function 3 of simpleProgram.
func checkSimplifyings(t *testing.T, simplify simplifier, list []simplifying) {
	t.Helper()
	for _, c := range list {
		p := withBody(simpleProgram(), 3, parsed(c.body))
		if !impl.ValidProgram(p) {
			t.Errorf("%s is not valid", c.body)
			continue
		}
		want := withBody(p, 3, parsed(c.want))
		out, ok := simplify(p)
		if !ok || text(out) != text(want) {
			t.Errorf("%s becomes %v, %v, want %s", c.body, out, ok, c.want)
			continue
		}
		sameRuns(t, withBody(p, 0, parsed("(call3 7 -2)")), withBody(out, 0, parsed("(call3 7 -2)")))
	}
}

// sameRuns tells if two programs do not do the same with some number of calls.
func sameRuns(t *testing.T, p impl.Program, q impl.Program) {
	t.Helper()
	for most := 0; most <= 40; most++ {
		a, ok := impl.Eval(p, most)
		b, fine := impl.Eval(q, most)
		if !ok || !fine || text(a) != text(b) {
			t.Fatalf("Eval(%v, %d) = %v, %v, and that of %v = %v, %v", p, most, a, ok, q, b, fine)
		}
	}
}

func TestFoldOfConstants(t *testing.T) {
	checkSimplifyings(t, impl.Fold, []simplifying{
		{"5", "5"}, {"v0", "v0"},
		{"(add 2 3)", "5"}, {"(sub 2 3)", "-1"}, {"(mul -4 3)", "-12"}, {"(less 2 3)", "1"}, {"(less 3 3)", "0"}, {"(less 3 2)", "0"}, {"(sub 3 2)", "1"},
		// Beyond the limits of integers.
		{"(add 999 1)", "999"}, {"(add -999 -1)", "-999"}, {"(sub -999 1)", "-999"}, {"(sub 999 -999)", "999"}, {"(mul 999 999)", "999"}, {"(mul -999 999)", "-999"}, {"(mul 500 2)", "999"},
		{"(add 500 499)", "999"}, {"(mul 333 3)", "999"}, {"(sub (add 999 1) 1)", "998"}, {"(add (mul 40 -30) 1)", "-998"}, {"(less (mul 99 99) 999)", "0"},
		// From inside out.
		{"(add (mul 2 3) (sub 1 4))", "3"}, {"(add (add (add 1 2) 3) 4)", "10"}, {"(add v0 (add 1 2))", "(add v0 3)"}, {"(add (add 1 2) v0)", "(add 3 v0)"},
		{"(print (add 1 2))", "(print 3)"}, {"(let (add 1 2) (add v2 (add 3 4)))", "(let 3 (add v2 7))"}, {"(call3 (add 1 2) (sub 1 2))", "(call3 3 -1)"},
		{"(apply (close3 (add 1 1)) (add 2 2))", "(apply (close3 2) 4)"}, {"(call2 (con1 (add 1 1) (con0)) (mul 2 2) 1)", "(call2 (con1 2 (con0)) 4 1)"},
		// What is not known, or prints.
		{"(add v0 1)", "(add v0 1)"}, {"(add 1 v0)", "(add 1 v0)"}, {"(sub v0 v0)", "(sub v0 v0)"}, {"(mul v0 0)", "(mul v0 0)"}, {"(add (add v0 1) 2)", "(add (add v0 1) 2)"},
		{"(add (print 1) 2)", "(add (print 1) 2)"}, {"(add 1 (print 2))", "(add 1 (print 2))"}, {"(less (call0) 2)", "(less (call0) 2)"}, {"(let 1 (add v2 2))", "(let 1 (add v2 2))"},
	})
}

func TestFoldOfChoices(t *testing.T) {
	checkSimplifyings(t, impl.Fold, []simplifying{
		{"(if 1 v0 v1)", "v0"}, {"(if 0 v0 v1)", "v1"}, {"(if -1 v0 v1)", "v0"}, {"(if 999 2 3)", "2"},
		{"(if 1 2 (print 3))", "2"}, {"(if 0 (call3 1 2) 4)", "4"}, {"(if 1 (print 2) (print 3))", "(print 2)"},
		{"(if v0 (add 1 1) (add 2 2))", "(if v0 2 4)"}, {"(if v0 2 2)", "(if v0 2 2)"}, {"(if (print 1) 2 3)", "(if (print 1) 2 3)"}, {"(if (let 1 v2) 2 3)", "(if (let 1 v2) 2 3)"},
		// The first kid becomes known, or the chosen one.
		{"(if (less 1 2) (add v0 (add 1 1)) (print 9))", "(add v0 2)"}, {"(if (if 1 0 1) 5 6)", "6"}, {"(if (sub 3 3) 5 (if (mul 2 -3) v1 v0))", "v1"}, {"(if (match1 (con0) 1 0) 2 3)", "2"},
		{"(add (if 1 4 v0) (if 0 v1 5))", "9"}, {"(if 1 (let v0 (add v2 v1)) 3)", "(let v0 (add v2 v1))"}, {"(let 5 (if 0 v0 v2))", "(let 5 v2)"},
		{"(match1 (if 1 (con1 v0 (con0)) (con0)) 0 v2)", "(let v0 (let (con0) v2))"}, {"(match1 (if v0 (con0) (con0)) 0 v2)", "(match1 (if v0 (con0) (con0)) 0 v2)"},
	})
}

func TestFoldOfMatches(t *testing.T) {
	checkSimplifyings(t, impl.Fold, []simplifying{
		{"(match1 (con0) v0 v2)", "v0"}, {"(match1 (con0) (print 1) (print 2))", "(print 1)"}, {"(match1 (con0) (sub 1 3) v2)", "-2"},
		// What is bound is used once, twice, and not at all.
		{"(match1 (con1 v0 (con0)) 7 v2)", "(let v0 (let (con0) v2))"}, {"(match1 (con1 v0 (con0)) 7 (add v2 v2))", "(let v0 (let (con0) (add v2 v2)))"},
		{"(match1 (con1 v0 (con0)) 7 8)", "(let v0 (let (con0) 8))"}, {"(match1 (con1 v0 (con0)) 7 (match1 v3 v2 v4))", "(let v0 (let (con0) (match1 v3 v2 v4)))"},
		// Fields that print, or call, are not left out, and stay in order.
		{"(match1 (con1 (print 4) (con0)) 0 7)", "(let (print 4) (let (con0) 7))"}, {"(match2 (con2 (print 1) (print 2) (call1 3)) 0)", "(let (print 1) (let (print 2) (let (call1 3) 0)))"},
		{"(match1 (con1 (call3 1 2) (con1 (print 3) (con0))) 0 v2)", "(let (call3 1 2) (let (con1 (print 3) (con0)) v2))"},
		// Fields that bind variables are renumbered, and what they have of the scope is not.
		{"(match1 (con1 (let v0 v2) (let (con0) v2)) 0 v2)", "(let (let v0 v2) (let (let (con0) v3) v2))"},
		{"(match2 (con2 (let 1 v2) (let v1 v2) (let v0 (add v2 v0))) (sub v2 (sub v3 v4)))", "(let (let 1 v2) (let (let v1 v3) (let (let v0 (add v4 v0)) (sub v2 (sub v3 v4)))))"},
		{"(match2 (con2 v1 (let v0 (let v2 (add v3 v1))) (let v1 (let v2 (sub v3 v0)))) v4)", "(let v1 (let (let v0 (let v3 (add v4 v1))) (let (let v1 (let v4 (sub v5 v0))) v4)))"},
		{"(match2 (con2 1 2 (let (con1 8 (con0)) (match1 v2 v0 (add v3 v0)))) v4)", "(let 1 (let 2 (let (let (con1 8 (con0)) (match1 v4 v0 (add v5 v0))) v4)))"},
		// Inside of other bindings.
		{"(let 5 (match1 (con1 v2 (con0)) 0 (add v3 v2)))", "(let 5 (let v2 (let (con0) (add v3 v2))))"},
		{"(let 5 (match1 (con1 (let v2 v3) (let (con0) v3)) 0 (add v3 v2)))", "(let 5 (let (let v2 v3) (let (let (con0) v4) (add v3 v2))))"},
		{"(let (match1 (con1 v0 (con0)) 0 v2) v2)", "(let (let v0 (let (con0) v2)) v2)"},
		{"(let (con1 1 (con0)) (match1 v2 9 (match1 (con1 v3 (let v4 v5)) 0 (add v5 v3))))", "(let (con1 1 (con0)) (match1 v2 9 (let v3 (let (let v4 v6) (add v5 v3)))))"},
		// Matches in fields, in arms, and in what is matched.
		{"(match1 (con1 v0 (match1 (con1 v1 (con0)) (con0) v3)) 0 v2)", "(let v0 (let (let v1 (let (con0) v4)) v2))"},
		{"(match1 (con1 v0 (con0)) 0 (match1 (con1 v2 v3) 0 (add v4 v2)))", "(let v0 (let (con0) (let v2 (let v3 (add v4 v2)))))"},
		{"(match1 (match1 (con0) (con1 v0 (con0)) (con0)) 0 v2)", "(let v0 (let (con0) v2))"},
		{"(match1 (match1 (con1 1 (con0)) (con0) v3) 0 v2)", "(match1 (let 1 (let (con0) v3)) 0 v2)"},
		{"(match1 (con1 5 (con1 6 (con0))) 0 (match1 v3 v2 9))", "(let 5 (let (con1 6 (con0)) (match1 v3 v2 9)))"},
		// The constructors of a type are counted from its first one.
		{"(match4 (con4) 1 2 3)", "2"}, {"(match4 (con3 (close1)) (apply v2 v0) 2 3)", "(let (close1) (apply v2 v0))"}, {"(match4 (con5 (con0) (con4)) 1 2 (match4 v3 4 5 6))", "(let (con0) (let (con4) (match4 v3 4 5 6)))"},
		// What is not known.
		{"(match1 (let 1 (con0)) 8 9)", "(match1 (let 1 (con0)) 8 9)"}, {"(let (con0) (match1 v2 8 9))", "(let (con0) (match1 v2 8 9))"},
		{"(let (con1 (add 1 1) (con0)) (match1 v2 (add 2 2) (add v3 (add 3 3))))", "(let (con1 2 (con0)) (match1 v2 4 (add v3 6)))"}, {"(if (match1 (con1 5 (con0)) 1 v2) 2 3)", "(if (let 5 (let (con0) v2)) 2 3)"},
	})
}

func TestFoldInAllBodies(t *testing.T) {
	p := simpleProgram()
	for f := range p.Funcs {
		p.Funcs[f].Body = parsed("(match1 (con1 (let 1 v9) (let (con0) v9)) 0 (add 1 (add 2 3)))")
	}
	// The variable that is bound first has the number of the parameters.
	for f, one := range p.Funcs {
		n := len(one.Params)
		p.Funcs[f].Body.Kids[0].Kids[0].Kids[1].Num = n
		p.Funcs[f].Body.Kids[0].Kids[1].Kids[1].Num = n
	}
	out, ok := impl.Fold(p)
	if !ok {
		t.Fatalf("Fold(%v) fails", p)
	}
	for f, want := range []string{
		"(let (let 1 v0) (let (let (con0) v1) 6))", "(let (let 1 v1) (let (let (con0) v2) 6))", "(let (let 1 v3) (let (let (con0) v4) 6))", "(let (let 1 v2) (let (let (con0) v3) 6))",
	} {
		if got := shown(out.Funcs[f].Body); got != want {
			t.Errorf("Fold has the body %s of the function %d, want %s", got, f, want)
		}
	}
}

// sized is an expression that has some nodes when it is folded.
type sized struct {
	e     impl.Expr
	nodes int
}

func TestFoldAtTheLimit(t *testing.T) {
	drop := func(e impl.Expr) impl.Expr { return ex(impl.OpIf, 0, num(0), e, num(5)) }
	for i, c := range []sized{
		{boxed(28), 29}, {boxed(29), 30}, {boxed(30), 31},
		{nestedBoxes(1), 7}, {nestedBoxes(3), 19}, {nestedBoxes(4), 25}, {nestedBoxes(5), 31}, {ex(impl.OpPrint, 0, nestedBoxes(5)), 32}, {add(nestedBoxes(4), num(1)), 27},
		{add(boxed(24), deep(4)), 30}, {add(boxed(25), deep(4)), 31}, {add(boxed(24), deep(5)), 31}, {add(boxed(14), boxed(13)), 30}, {add(boxed(14), boxed(14)), 31},
		{deep(30), 30}, {add(boxed(26), add(num(1), num(2))), 29}, {add(add(num(1), num(2)), boxed(25)), 28},
		// What is left out again does not count, however large it becomes on the way.
		{drop(nestedBoxes(5)), 1}, {drop(boxed(27)), 1}, {ex(impl.OpPrint, 0, drop(nestedBoxes(5))), 2}, {add(drop(boxed(24)), num(3)), 1},
	} {
		for f := 0; f <= 1; f++ {
			p := withBody(boxProgram(), f, c.e)
			if !impl.ValidProgram(p) {
				t.Fatalf("the expression %d is not valid", i)
			}
			out, ok := impl.Fold(p)
			if ok != (c.nodes <= 30) {
				t.Errorf("Fold of the expression %d, which then has %d nodes, = %v", i, c.nodes, ok)
			}
			if ok && (impl.NodesOf(out.Funcs[f].Body) != c.nodes || text(out.Funcs[1-f]) != text(p.Funcs[1-f])) {
				t.Errorf("Fold of the expression %d = %v, want %d nodes", i, out, c.nodes)
			}
			if !ok && text(out) != text(impl.Program{}) {
				t.Errorf("Fold of the expression %d fails with %v", i, out)
			}
		}
	}
}

func TestKnownCallsOfTheRules(t *testing.T) {
	checkSimplifyings(t, impl.KnownCalls, []simplifying{
		// Closures without fields, and with one and two.
		{"(apply (close1) 5)", "(call1 5)"}, {"(apply (close3 v0) v1)", "(call3 v0 v1)"}, {"(apply (close2 (con1 v0 (con0)) (print 2)) (print 3))", "(call2 (con1 v0 (con0)) (print 2) (print 3))"},
		{"(apply (close3 (print 1)) (print 2))", "(call3 (print 1) (print 2))"},
		// Inside of others, and of each other.
		{"(apply (close3 (apply (close1) 1)) (apply (close1) 2))", "(call3 (call1 1) (call1 2))"}, {"(print (apply (close1) v0))", "(print (call1 v0))"},
		{"(let (apply (close1) v0) (apply (close3 v2) (let v2 v3)))", "(let (call1 v0) (call3 v2 (let v2 v3)))"}, {"(match1 (con1 (apply (close1) 1) (con0)) (apply (close1) 2) (apply (close1) v2))", "(match1 (con1 (call1 1) (con0)) (call1 2) (call1 v2))"},
		{"(if v0 (apply (close1) 1) (apply (close3 8) 2))", "(if v0 (call1 1) (call3 8 2))"}, {"(match4 (con3 (close1)) (apply v2 (apply (close1) 1)) 2 3)", "(match4 (con3 (close1)) (apply v2 (call1 1)) 2 3)"},
		// What is not known at once, or is not applied.
		{"(let (close1) (apply v2 5))", "(let (close1) (apply v2 5))"}, {"(apply (let 1 (close1)) 5)", "(apply (let 1 (close1)) 5)"}, {"(apply (if v0 (close1) (close3 1)) 5)", "(apply (if v0 (close1) (close3 1)) 5)"},
		{"(match4 (con3 (close1)) 1 2 3)", "(match4 (con3 (close1)) 1 2 3)"}, {"(call1 5)", "(call1 5)"}, {"(add (add 1 2) (if 1 2 3))", "(add (add 1 2) (if 1 2 3))"},
		// Evaluation goes on from left to right, and calls begin in the same order.
		{"(apply (close3 (call1 8)) (call1 9))", "(call3 (call1 8) (call1 9))"}, {"(apply (if 1 (close1) (close1)) (apply (close1) 6))", "(apply (if 1 (close1) (close1)) (call1 6))"},
	})
	// A closure that returns a closure: what the call returns is not known.
	p := impl.Program{Decls: []impl.Decl{arrow(0, 2), arrow(0, 0)}, Funcs: []impl.Func{
		{Body: parsed("(apply (apply (close1) 1) 2)")}, {Params: []int{0}, Result: 2, Body: parsed("(close2 v0)")}, {Params: []int{0, 0}, Body: parsed("(apply (apply (close1) v0) (apply (close2 v0) v1))")},
	}}
	out, ok := impl.KnownCalls(p)
	if !ok || shown(out.Funcs[0].Body) != "(apply (call1 1) 2)" || shown(out.Funcs[2].Body) != "(apply (call1 v0) (call2 v0 v1))" || shown(out.Funcs[1].Body) != "(close2 v0)" {
		t.Errorf("KnownCalls(%v) = %v, %v", p, out, ok)
	}
}

func TestSimplifyingInvalidPrograms(t *testing.T) {
	for i, p := range badPrograms() {
		if out, ok := impl.Fold(p); ok || text(out) != text(impl.Program{}) {
			t.Errorf("Fold of the bad program %d = %v, %v", i, out, ok)
		}
		if out, ok := impl.KnownCalls(p); ok || text(out) != text(impl.Program{}) {
			t.Errorf("KnownCalls of the bad program %d = %v, %v", i, out, ok)
		}
	}
}

func TestFoldAgreesWithTheSecondWay(t *testing.T) {
	folded, large := 0, 0
	for _, p := range simplePrograms() {
		want, fits := foldMeaning(p)
		out, ok := impl.Fold(p)
		if ok != fits || text(out) != text(want) {
			t.Fatalf("Fold(%v) = %v, %v, want %v, %v", p, out, ok, want, fits)
		}
		if !ok {
			large++
		} else if text(out) != text(p) {
			folded++
		}
	}
	if folded < 300 || large < 5 {
		t.Errorf("%d programs are folded, and %d become too large", folded, large)
	}
}

func TestKnownCallsAgreesWithTheSecondWay(t *testing.T) {
	for _, p := range simplePrograms() {
		if out, ok := impl.KnownCalls(p); !ok || text(out) != text(knownMeaning(p)) {
			t.Fatalf("KnownCalls(%v) = %v, %v, want %v", p, out, ok, knownMeaning(p))
		}
	}
}

// eachFolded calls a function for programs that can be folded, and what Fold makes of them.
func eachFolded(t *testing.T, check func(p impl.Program, out impl.Program)) {
	t.Helper()
	changed := 0
	for _, p := range simplePrograms() {
		out, ok := impl.Fold(p)
		if !ok {
			continue
		}
		check(p, out)
		if text(out) != text(p) {
			changed++
		}
	}
	if changed < 300 {
		t.Errorf("only %d programs are changed", changed)
	}
}

func TestP170FoldedProgramsDoTheSame(t *testing.T) {
	done := 0
	eachFolded(t, func(p impl.Program, out impl.Program) {
		a, _ := impl.Eval(p, 40)
		b, ok := impl.Eval(out, 40)
		if !impl.ValidProgram(out) || !ok || text(a) != text(b) {
			t.Fatalf("Fold(%v) = %v, and Eval gives %v and %v", p, out, a, b)
		}
		if a.Status == impl.Done {
			done++
		}
	})
	if done < 300 {
		t.Errorf("only %d programs end", done)
	}
}

func TestP171FoldingOnceIsEnough(t *testing.T) {
	eachFolded(t, func(p impl.Program, out impl.Program) {
		if again, ok := impl.Fold(out); !ok || text(again) != text(out) {
			t.Fatalf("Fold(%v) = %v, and Fold of it is %v, %v", p, out, again, ok)
		}
	})
}

func TestP172FoldedProgramsAreCutOffAlike(t *testing.T) {
	eachFolded(t, func(p impl.Program, out impl.Program) { sameRuns(t, p, out) })
	for _, p := range []impl.Program{foreverProgram(), growProgram(), downProgram(41), downProgram(39), downProgram(40)} {
		out, ok := impl.Fold(p)
		if !ok {
			t.Fatalf("Fold(%v) fails", p)
		}
		sameRuns(t, p, out)
		for _, most := range []int{-1, 41} {
			if o, ok := impl.Eval(out, most); ok {
				t.Errorf("Eval with %d calls = %v", most, o)
			}
		}
	}
}

func TestP173FoldingAddsNoCalls(t *testing.T) {
	fewer := 0
	eachFolded(t, func(p impl.Program, out impl.Program) {
		for f := range p.Funcs {
			before, now := impl.CalleesOf(p, f), impl.CalleesOf(out, f)
			if !partOf(now, before) {
				t.Fatalf("Fold(%v) = %v, and the function %d names %v", p, out, f, now)
			}
			if len(now) < len(before) {
				fewer++
			}
		}
	})
	if fewer < 20 {
		t.Errorf("only %d functions name fewer ones", fewer)
	}
}

func TestP174KnownClosuresAreCalledDirectly(t *testing.T) {
	called := 0
	for _, p := range simplePrograms() {
		out, ok := impl.KnownCalls(p)
		if !ok || !impl.ValidProgram(out) {
			t.Fatalf("KnownCalls(%v) = %v, %v", p, out, ok)
		}
		sameRuns(t, p, out)
		for _, f := range out.Funcs {
			if closedAtOnce(f.Body) {
				t.Fatalf("KnownCalls(%v) = %v", p, out)
			}
		}
		if text(out) != text(p) && impl.CallsOf(p) > 0 {
			called++
		}
	}
	if called < 30 {
		t.Errorf("only %d programs with known closures end after calls", called)
	}
}

// closedAtOnce reports whether an expression has an OpApply of OpClose.
func closedAtOnce(e impl.Expr) bool {
	if e.Op == impl.OpApply && e.Kids[0].Op == impl.OpClose {
		return true
	}
	for _, kid := range e.Kids {
		if closedAtOnce(kid) {
			return true
		}
	}
	return false
}

func TestP175KnownClosuresAreFoundAtOnce(t *testing.T) {
	for _, p := range simplePrograms() {
		out, _ := impl.KnownCalls(p)
		if again, ok := impl.KnownCalls(out); !ok || text(again) != text(out) {
			t.Fatalf("KnownCalls(%v) = %v, and KnownCalls of it is %v, %v", p, out, again, ok)
		}
		for f, one := range p.Funcs {
			if now, before := impl.NodesOf(out.Funcs[f].Body), impl.NodesOf(one.Body); now > before || now < 1 {
				t.Fatalf("KnownCalls(%v) = %v, and the body %d has %d nodes, %d before", p, out, f, now, before)
			}
		}
	}
}
