package tests

import (
	"testing"

	"loop.example/refcountml/impl"
)

// inlining is the body of a function that is inlined, one that calls it, and what there should be instead.
type inlining struct {
	callee string
	body   string
	want   string
}

// inlineProgram has lists, boxes and closures; its function 2 has a list and an integer as parameters, and 3 two integers.
func inlineProgram(callee string, body string) impl.Program {
	return impl.Program{
		Decls: []impl.Decl{dataOf(nil, []int{0, 1}), dataOf([]int{0, 0, 0}), arrow(0, 0)},
		Funcs: []impl.Func{{Body: num(0)}, {Params: []int{0}, Body: ex(impl.OpPrint, 0, v(0))}, {Params: []int{1, 0}, Body: parsed(callee)}, {Params: []int{0, 0}, Body: parsed(body)}},
	}
}

func TestInlineOfTheRules(t *testing.T) {
	for _, c := range []inlining{
		// Parameters that are used once, twice and not at all.
		{"v1", "(call2 (con0) v0)", "(let (con0) (let v0 v3))"}, {"(add v1 v1)", "(call2 (con0) v0)", "(let (con0) (let v0 (add v3 v3)))"}, {"7", "(call2 (con1 1 (con0)) v1)", "(let (con1 1 (con0)) (let v1 7))"},
		{"(match1 v0 v1 (add v2 v1))", "(call2 (con1 v0 (con0)) v1)", "(let (con1 v0 (con0)) (let v1 (match1 v2 v3 (add v4 v3))))"},
		// The body binds variables of its own.
		{"(let v1 (let v2 (sub v3 v1)))", "(call2 (con0) v0)", "(let (con0) (let v0 (let v3 (let v4 (sub v5 v3)))))"},
		// Arguments that print, call and bind are not left out, and are renumbered where they bind.
		{"7", "(call2 (con1 (print 1) (con0)) (print 2))", "(let (con1 (print 1) (con0)) (let (print 2) 7))"},
		{"v1", "(call2 (let v0 (con1 v2 (con0))) (let v1 (add v2 v0)))", "(let (let v0 (con1 v2 (con0))) (let (let v1 (add v3 v0)) v3))"},
		{"v1", "(call2 (con0) (match1 (con1 v0 (con0)) 3 (match1 v3 v2 v4)))", "(let (con0) (let (match1 (con1 v0 (con0)) 3 (match1 v4 v3 v5)) v3))"},
		{"v1", "(call2 (con0) (let 1 (let 2 (sub v2 v3))))", "(let (con0) (let (let 1 (let 2 (sub v3 v4))) v3))"},
		// Calls in the arguments of calls of the same function.
		{"v1", "(call2 (con0) (call2 (con0) v1))", "(let (con0) (let (let (con0) (let v1 v4)) v3))"},
		{"(let v1 v2)", "(call2 (con1 (call2 (con0) 5) (con0)) 6)", "(let (con1 (let (con0) (let 5 (let v3 v4))) (con0)) (let 6 (let v3 v4)))"},
		{"(let v1 v2)", "(call2 (con0) (call2 (con0) (call2 (con0) v0)))", "(let (con0) (let (let (con0) (let (let (con0) (let v0 (let v5 v6))) (let v4 v5))) (let v3 v4)))"},
		// Calls in other scopes, and several of them.
		{"(add v1 1)", "(add (call2 (con0) 3) (call2 (con0) 4))", "(add (let (con0) (let 3 (add v3 1))) (let (con0) (let 4 (add v3 1))))"},
		{"(add v1 1)", "(let v0 (call2 (con0) v2))", "(let v0 (let (con0) (let v2 (add v4 1))))"}, {"(add v1 1)", "(let (call2 (con0) v0) v2)", "(let (let (con0) (let v0 (add v3 1))) v2)"},
		{"v1", "(match1 (con0) (call2 (con0) v0) (call2 v3 v2))", "(match1 (con0) (let (con0) (let v0 v3)) (let v3 (let v2 v5)))"},
		{"v1", "(match2 (con2 1 2 3) (if (call2 (con0) v4) v2 (call2 (con0) v3)))", "(match2 (con2 1 2 3) (if (let (con0) (let v4 v6)) v2 (let (con0) (let v3 v6))))"},
		{"v1", "(sub (call1 (call2 (con0) v0)) (print (call2 (con0) v1)))", "(sub (call1 (let (con0) (let v0 v3))) (print (let (con0) (let v1 v3))))"},
		// Other functions stay, also those that the body calls, and nothing is simplified.
		{"(call1 v1)", "(call2 (con0) (call1 v0))", "(let (con0) (let (call1 v0) (call1 v3)))"}, {"(apply (close1) v1)", "(add (call2 (con0) 1) (apply (close1) 2))", "(add (let (con0) (let 1 (apply (close1) v3))) (apply (close1) 2))"},
		{"(if 1 2 3)", "(add (add 1 2) (call2 (con0) 1))", "(add (add 1 2) (let (con0) (let 1 (if 1 2 3))))"},
		{"v1", "(call1 v0)", "(call1 v0)"}, {"v1", "(let v0 v2)", "(let v0 v2)"},
	} {
		p := inlineProgram(c.callee, c.body)
		p.Funcs[0].Body = parsed("(call3 7 -2)")
		if !impl.ValidProgram(p) {
			t.Errorf("%s with %s is not valid", c.body, c.callee)
			continue
		}
		out, ok := impl.Inline(p, 2)
		if !ok || text(out) != text(withBody(p, 3, parsed(c.want))) {
			t.Errorf("Inline of %s into %s = %v, %v, want %s", c.callee, c.body, out, ok, c.want)
			continue
		}
		if a, b := eval(t, p, 40), eval(t, out, 40); text(a.Out) != text(b.Out) || a.Value != b.Value || a.Calls < b.Calls {
			t.Errorf("Inline of %s into %s does %v instead of %v", c.callee, c.body, b, a)
		}
	}
}

// eval returns the outcome of a valid program.
func eval(t *testing.T, p impl.Program, most int) impl.Outcome {
	t.Helper()
	o, ok := impl.Eval(p, most)
	if !ok {
		t.Fatalf("Eval(%v, %d) fails", p, most)
	}
	return o
}

func TestInlineOfOtherNumbersOfParameters(t *testing.T) {
	p := impl.Program{Decls: append(lists(), arrow(0, 0)), Funcs: []impl.Func{
		{Body: parsed("(let 5 (add (call1) (call2 v0 (call1) (con1 (call1) (con0)))))")},
		{Body: parsed("(let 4 (add v0 v0))")},
		{Params: []int{0, 0, 1}, Body: parsed("(match1 v2 (sub v0 v1) (let (call1) (add v3 v5)))")},
		{Params: []int{0}, Body: parsed("(add (call1) (apply (close3) v0))")},
	}}
	one, ok := impl.Inline(p, 1)
	if !ok || shown(one.Funcs[0].Body) != "(let 5 (add (let 4 (add v1 v1)) (call2 v0 (let 4 (add v1 v1)) (con1 (let 4 (add v1 v1)) (con0)))))" ||
		shown(one.Funcs[2].Body) != "(match1 v2 (sub v0 v1) (let (let 4 (add v5 v5)) (add v3 v5)))" || shown(one.Funcs[3].Body) != "(add (let 4 (add v1 v1)) (apply (close3) v0))" || shown(one.Funcs[1].Body) != "(let 4 (add v0 v0))" {
		t.Errorf("Inline = %v, %v", one, ok)
	}
	two, ok := impl.Inline(p, 2)
	if !ok || shown(two.Funcs[0].Body) != "(let 5 (add (call1) (let v0 (let (call1) (let (con1 (call1) (con0)) (match1 v3 (sub v1 v2) (let (call1) (add v4 v6))))))))" {
		t.Errorf("Inline = %v, %v", two, ok)
	}
	if out, ok := impl.Inline(p, 3); ok || text(out) != text(impl.Program{}) {
		t.Errorf("Inline of a function with a closure of itself = %v", out)
	}
}

// Only calls are replaced: a function of which there are closures stays, and so do these.
func TestInlineLeavesClosures(t *testing.T) {
	p := mapProgram()
	p.Funcs[1].Body = parsed("(match1 v0 0 (call3 v1 (call1 v2)))")
	out, ok := impl.Inline(p, 3)
	if !ok || shown(out.Funcs[1].Body) != "(match1 v0 0 (let v1 (let (call1 v2) (add v3 v4))))" || text(out.Funcs[0]) != text(p.Funcs[0]) || impl.CallSites(out, 3) != 0 || text(out.Funcs[3]) != text(p.Funcs[3]) {
		t.Errorf("Inline = %v, %v", out, ok)
	}
}

func TestInlineAtTheLimit(t *testing.T) {
	// Each call becomes as many nodes as the body and the argument have, and one more.
	program := func(callee impl.Expr, body impl.Expr) impl.Program {
		return impl.Program{Funcs: []impl.Func{{Body: num(0)}, {Params: []int{0}, Body: callee}, {Body: body}}}
	}
	calls := func(arg impl.Expr) impl.Expr { return ex(impl.OpCall, 1, arg) }
	for i, c := range []struct {
		callee impl.Expr
		body   impl.Expr
		nodes  int
	}{
		{deep(28), calls(num(1)), 30}, {deep(29), calls(num(1)), 31}, {deep(30), calls(num(1)), 32}, {deep(10), calls(deep(19)), 30}, {deep(10), calls(deep(20)), 31}, {num(1), calls(deep(28)), 30}, {num(1), calls(deep(29)), 31},
		{deep(14), ex(impl.OpPrint, 0, ex(impl.OpPrint, 0, calls(deep(13)))), 30}, {deep(14), ex(impl.OpPrint, 0, ex(impl.OpPrint, 0, calls(deep(14)))), 31},
		{deep(8), calls(calls(calls(deep(3)))), 30}, {deep(8), calls(calls(calls(deep(4)))), 31}, {deep(13), add(calls(num(1)), calls(num(1))), 31}, {deep(12), add(calls(num(1)), calls(num(1))), 29},
		{deep(12), add(calls(num(1)), calls(deep(2))), 30}, {deep(30), calls(calls(calls(calls(calls(num(1)))))), 156},
		{deep(30), num(1), 1}, {deep(30), deep(30), 30},
	} {
		p := program(c.callee, c.body)
		out, ok := impl.Inline(p, 1)
		if !impl.ValidProgram(p) || ok != (c.nodes <= 30) {
			t.Errorf("Inline of the program %d, which then has %d nodes, = %v", i, c.nodes, ok)
		}
		if ok && (impl.NodesOf(out.Funcs[2].Body) != c.nodes || text(out.Funcs[:2]) != text(p.Funcs[:2])) {
			t.Errorf("Inline of the program %d = %v", i, out)
		}
		if !ok && text(out) != text(impl.Program{}) {
			t.Errorf("Inline of the program %d fails with %v", i, out)
		}
		// Also in the first body, and where the other one fits.
		first := impl.Program{Funcs: []impl.Func{{Body: c.body}, p.Funcs[1], {Body: num(3)}}}
		if _, fine := impl.Inline(first, 1); fine != ok {
			t.Errorf("Inline of the program %d into the first body = %v", i, fine)
		}
	}
	if p := program(num(1), calls(num(1))); !impl.ValidProgram(withBody(p, 2, deep(30))) {
		t.Error("the limit is another one")
	}
}

func TestMayInlineOfPrograms(t *testing.T) {
	// Functions that name each other by way of one and two others, by calls and by closures, and the function 0.
	round := func(bodies ...string) impl.Program {
		p := impl.Program{Decls: []impl.Decl{arrow(0, 0)}, Funcs: []impl.Func{{}, {Params: []int{0}}, {Params: []int{0}}, {Params: []int{0}}}}
		for f, body := range bodies {
			p.Funcs[f].Body = parsed(body)
		}
		return p
	}
	for _, c := range []struct {
		p    impl.Program
		want string
	}{
		{sumProgram(), "[false false]"}, {mapProgram(), "[false false false true]"}, {chainProgram(), "[false true false true]"}, {tieProgram(), "[false false false true]"}, {emptyProgram(), "[false false]"},
		{foreverProgram(), "[false]"}, {nestProgram(), "[false true true]"}, {ruleProgram(), "[false true true true]"},
		{round("1", "2", "3", "4"), "[false true true true]"},
		{round("(call1 1)", "(call2 v0)", "(call3 v0)", "v0"), "[false true true true]"},
		{round("(call1 1)", "(call2 v0)", "(call3 v0)", "(call3 v0)"), "[false true true false]"},
		{round("(call1 1)", "(call2 v0)", "(call3 v0)", "(call2 v0)"), "[false true false false]"},
		{round("(call1 1)", "(call2 v0)", "(call3 v0)", "(call1 v0)"), "[false false false false]"},
		{round("(call1 1)", "(call2 v0)", "(call3 v0)", "(apply (close1) v0)"), "[false false false false]"},
		{round("(call1 1)", "(call2 v0)", "(apply (close3) v0)", "(call1 v0)"), "[false false false false]"},
		// By way of the function 0.
		{round("(call1 1)", "(call2 v0)", "(call0)", "v0"), "[false false false true]"}, {round("(call1 1)", "(call0)", "v0", "(call0)"), "[false false true true]"}, {round("(call0)", "(call0)", "v0", "(call1 v0)"), "[false true true true]"},
		// A closure that is never called, and a call that is never reached.
		{round("0", "(let (close1) v0)", "(if 0 (call2 1) v0)", "v0"), "[false false false true]"},
	} {
		var got []bool
		for f := range c.p.Funcs {
			got = append(got, impl.MayInline(c.p, f))
			if out, ok := impl.Inline(c.p, f); !impl.MayInline(c.p, f) && (ok || text(out) != text(impl.Program{})) {
				t.Errorf("Inline(%v, %d) = %v, %v", c.p, f, out, ok)
			}
		}
		if text(got) != c.want {
			t.Errorf("MayInline of the functions of %v = %v, want %s", c.p, got, c.want)
		}
	}
}

func TestCallSitesOfPrograms(t *testing.T) {
	for _, c := range []struct {
		p    impl.Program
		want string
	}{
		{sumProgram(), "[0 2]"}, {mapProgram(), "[0 2 2 0]"}, {chainProgram(), "[0 1 1 1]"}, {tieProgram(), "[0 3 1 0]"}, {nestProgram(), "[0 4 1]"}, {foreverProgram(), "[1]"}, {ruleProgram(), "[0 0 0 0]"},
		{withBody(tieProgram(), 0, parsed("(call1 (call1 (call1 (call2 (call3 1)))))")), "[0 6 2 1]"},
		{withBody(mapProgram(), 0, parsed("(let (close3 (call0)) (apply v0 (apply (close3 1) 2)))")), "[1 1 1 0]"},
		{withBody(mapProgram(), 3, parsed("(match1 (con1 (call3 1 2) (con0)) (call3 3 (call3 4 5)) (let (call3 6 7) (if (call3 8 9) (print (call3 1 2)) v2)))")), "[0 2 2 6]"},
	} {
		var got []int
		for f := range c.p.Funcs {
			got = append(got, impl.CallSites(c.p, f))
		}
		if text(got) != c.want {
			t.Errorf("CallSites of the functions of %v = %v, want %s", c.p, got, c.want)
		}
	}
}

// inlinesNothing tells if a function of a program can be inlined, or has call sites, although there is none.
func inlinesNothing(t *testing.T, what string, p impl.Program, f int) {
	t.Helper()
	out, ok := impl.Inline(p, f)
	if ok || text(out) != text(impl.Program{}) || impl.MayInline(p, f) || impl.CallSites(p, f) != -1 {
		t.Errorf("MayInline, Inline and CallSites of the function %d of %s = %v, %v, %v, %d", f, what, impl.MayInline(p, f), out, ok, impl.CallSites(p, f))
	}
}

func TestInliningOfInvalidArguments(t *testing.T) {
	for _, f := range []int{-1 << 63, -1, 4, 5, 1 << 62, 1<<63 - 1} {
		inlinesNothing(t, "a program without it", mapProgram(), f)
	}
	inlinesNothing(t, "a program without it", sumProgram(), 2)
	for _, p := range badPrograms() {
		for f := -1; f <= 4; f++ {
			inlinesNothing(t, "a bad program", p, f)
		}
	}
}

func TestInliningAgreesWithTheSecondWay(t *testing.T) {
	inlined, large, stay := 0, 0, 0
	for _, p := range simplePrograms() {
		for f := range p.Funcs {
			want, fits := inlineMeaning(p, f)
			out, ok := impl.Inline(p, f)
			if ok != fits || text(out) != text(want) || impl.MayInline(p, f) != inlineable(p, f) {
				t.Fatalf("Inline(%v, %d) = %v, %v, want %v, %v", p, f, out, ok, want, fits)
			}
			sites := 0
			for _, one := range p.Funcs {
				sites += nodesWith(one.Body, impl.OpCall, f)
			}
			if got := impl.CallSites(p, f); got != sites {
				t.Fatalf("CallSites(%v, %d) = %d, want %d", p, f, got, sites)
			}
			switch {
			case !inlineable(p, f):
				stay++
			case !ok:
				large++
			case text(out) != text(p):
				inlined++
			}
		}
	}
	if inlined < 200 || large < 50 || stay < 500 {
		t.Errorf("%d functions are inlined, %d make bodies too large, and %d stay", inlined, large, stay)
	}
}

// eachInlined calls a function for programs with functions that can be inlined, and what Inline makes of them.
func eachInlined(t *testing.T, check func(p impl.Program, f int, out impl.Program)) {
	t.Helper()
	changed := 0
	for _, p := range simplePrograms() {
		for f := range p.Funcs {
			out, ok := impl.Inline(p, f)
			if !ok {
				continue
			}
			check(p, f, out)
			if text(out) != text(p) {
				changed++
			}
		}
	}
	if changed < 200 {
		t.Errorf("only %d programs are changed", changed)
	}
}

func TestP176FunctionsThatCallThemselvesStay(t *testing.T) {
	themselves, others := 0, 0
	for _, p := range simplePrograms() {
		for f := range p.Funcs {
			back := false
			for _, g := range impl.CalleesOf(p, f) {
				back = back || has(impl.ReachedFrom(p, g), f)
			}
			if impl.MayInline(p, f) != (f > 0 && !back) {
				t.Fatalf("MayInline(%v, %d) = %v", p, f, impl.MayInline(p, f))
			}
			if back && f > 0 {
				themselves++
			} else if f > 0 {
				others++
			}
		}
	}
	if themselves < 100 || others < 100 {
		t.Errorf("%d functions reach themselves, and %d do not", themselves, others)
	}
}

func TestP177InlinedCallsAreGone(t *testing.T) {
	eachInlined(t, func(p impl.Program, f int, out impl.Program) {
		if !impl.ValidProgram(out) || impl.CallSites(out, f) != 0 || text(withBodies(out, num(0))) != text(withBodies(p, num(0))) {
			t.Fatalf("Inline(%v, %d) = %v", p, f, out)
		}
	})
}

func TestP178InlinedProgramsDoTheSameWithFewerCalls(t *testing.T) {
	fewer := 0
	eachInlined(t, func(p impl.Program, f int, out impl.Program) {
		for most := 0; most <= 40; most++ {
			a, b := eval(t, p, most), eval(t, out, most)
			if a.Status != impl.Done {
				continue
			}
			if b.Status != impl.Done || b.Value != a.Value || text(b.Out) != text(a.Out) || b.Calls > a.Calls {
				t.Fatalf("Inline(%v, %d) = %v, and Eval with %d calls gives %v and %v", p, f, out, most, a, b)
			}
			if b.Calls < a.Calls {
				fewer++
			}
		}
	})
	if fewer < 1000 {
		t.Errorf("only %d runs have fewer calls", fewer)
	}
}

func TestP179FunctionsThatAreNotCalledAreInlinedNowhere(t *testing.T) {
	nowhere := 0
	eachInlined(t, func(p impl.Program, f int, out impl.Program) {
		if impl.CallSites(p, f) == 0 {
			nowhere++
			if text(out) != text(p) {
				t.Fatalf("Inline(%v, %d) = %v", p, f, out)
			}
		}
		if again, ok := impl.Inline(out, f); !ok || text(again) != text(out) {
			t.Fatalf("Inline(%v, %d) = %v, and Inline of it is %v, %v", p, f, out, again, ok)
		}
	})
	if nowhere < 50 {
		t.Errorf("only %d functions are not called", nowhere)
	}
}

func TestP180CallSitesAreInCallers(t *testing.T) {
	called := 0
	for _, p := range simplePrograms() {
		for f := range p.Funcs {
			callers := 0
			for g := range p.Funcs {
				if has(impl.CalleesOf(p, g), f) {
					callers++
				}
			}
			sites := impl.CallSites(p, f)
			if sites < 0 || sites > 0 && callers == 0 {
				t.Fatalf("CallSites(%v, %d) = %d, and %d functions name it", p, f, sites, callers)
			}
			if sites > 0 {
				called++
			}
		}
	}
	if called < 500 {
		t.Errorf("only %d functions are called", called)
	}
}

func TestP181EachCallIsOneInstruction(t *testing.T) {
	for _, p := range simplePrograms() {
		im, ok := impl.Compile(p, 0)
		sites := 0
		for f := range p.Funcs {
			sites += impl.CallSites(p, f)
		}
		if many := countOps(im, impl.OpCall); !ok || many != sites {
			t.Fatalf("Compile(%v, 0) has %d calls, and there are %d call sites", p, many, sites)
		}
	}
}
