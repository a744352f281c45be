package tests

import (
	"testing"

	"loop.example/refcountml/impl"
)

// stepCount returns what StepsOf should of a block with an end.
func stepCount(b impl.Block) int {
	if n := stepsIn(b); n <= impl.MaxSteps {
		return n
	}
	return -1
}

// joinedBlocks returns a block with a step that has some kids.
func joinedBlocks(kids ...impl.Block) impl.Block {
	return block(0, choice(impl.OpIf, 0, 0, kids...))
}

func TestP46StepsAreCountedWithTheirBlocks(t *testing.T) {
	raw := rawBlocks()
	for i, b := range raw {
		raw = append(raw, joinedBlocks(b, raw[(3*i+1)%len(raw)], b))
	}
	for _, b := range raw {
		if impl.StepsOf(b) != stepCount(b) {
			t.Fatalf("StepsOf(%s) = %d, want %d", show(b), impl.StepsOf(b), stepCount(b))
		}
		sum := 0
		for _, s := range b.Steps {
			sum++
			for _, kid := range s.Kids {
				sum += impl.StepsOf(kid)
			}
		}
		if n := impl.StepsOf(b); n >= 0 && n != sum {
			t.Fatalf("StepsOf(%s) = %d, and its steps and kids have %d", show(b), n, sum)
		}
	}
}

func TestStepsOfAtTheLimit(t *testing.T) {
	for _, n := range []int{0, 1, 2, 299, 599, 600, 601, 602, 5000} {
		want := n
		if n > impl.MaxSteps {
			want = -1
		}
		if impl.StepsOf(wideBlock(n)) != want || impl.StepsOf(deepBlock(n)) != want {
			t.Errorf("StepsOf %d steps = %d and %d", n, impl.StepsOf(wideBlock(n)), impl.StepsOf(deepBlock(n)))
		}
	}
	for _, c := range []struct {
		b    impl.Block
		want int
	}{
		{joinedBlocks(wideBlock(299), wideBlock(300)), 600}, {joinedBlocks(wideBlock(300), wideBlock(300)), -1},
		{joinedBlocks(deepBlock(300), wideBlock(299)), 600}, {joinedBlocks(deepBlock(300), wideBlock(300)), -1},
		{block(0, choice(impl.OpIf, 0, 0, wideBlock(598)), st(impl.OpInt, 1)), 600}, {block(0, choice(impl.OpIf, 0, 0, wideBlock(599)), st(impl.OpInt, 1)), -1},
		{block(0, choice(impl.OpIf, 0, 0, wideBlock(599)), choice(impl.OpIf, 0, 0)), -1}, {joinedBlocks(make([]impl.Block, 5000)...), 1},
		{block(9, choice(impl.OpDup, 3, -5, wideBlock(2)), impl.Step{Op: -1, Kids: []impl.Block{wideBlock(3)}}), 7},
		{doubledBlock(9), 511}, {doubledBlock(10), -1},
	} {
		if n := impl.StepsOf(c.b); n != c.want {
			t.Errorf("StepsOf a block at the limit = %d, want %d", n, c.want)
		}
	}
	for _, b := range tooLong() {
		if impl.StepsOf(b) != -1 {
			t.Errorf("StepsOf a block that is too long = %d", impl.StepsOf(b))
		}
	}
}

// normalOf returns the normal form of a valid program.
func normalOf(t *testing.T, p impl.Program) impl.Normal {
	t.Helper()
	n, ok := impl.Normalize(p)
	if !ok {
		t.Fatalf("Normalize(%v) fails", p)
	}
	return n
}

// body is the body of a function with some parameters, and the text of its normal form.
type body struct {
	params []int
	e      impl.Expr
	want   string
}

func TestNormalizeOfBodies(t *testing.T) {
	for _, b := range []body{
		{nil, num(-5), "0:-5[] > 0"},
		{[]int{1, 0}, v(1), "> 1"},
		{[]int{1, 0}, let(v(1), v(2)), "> 1"},
		{[]int{1, 0}, let(v(1), let(v(2), add(v(3), v(1)))), "1:0[1 1] > 2"},
		{[]int{0}, let(num(5), let(v(1), add(v(2), v(0)))), "0:5[] 1:0[1 0] > 2"},
		{[]int{0}, let(num(5), let(num(6), v(1))), "0:5[] 0:6[] > 1"},
		{[]int{0}, ex(impl.OpSub, 0, let(num(1), ex(impl.OpPrint, 0, v(1))), let(v(0), ex(impl.OpMul, 0, v(1), num(2)))), "0:1[] 5:0[1] 0:2[] 3:0[0 3] 2:0[2 4] > 5"},
		{[]int{0}, ex(impl.OpIf, 0, v(0), v(0), num(2)), "7:0[0]{> 0}{0:2[] > 1} > 1"},
		{nil, add(num(4), ex(impl.OpIf, 0, num(1), num(2), let(num(3), v(0)))), "0:4[] 0:1[] 7:0[1]{0:2[] > 2}{0:3[] > 2} 1:0[0 2] > 3"},
		{nil, let(num(9), ex(impl.OpIf, 0, let(num(1), v(0)), add(v(0), num(8)), v(0))), "0:9[] 0:1[] 7:0[0]{0:8[] 1:0[0 2] > 3}{> 0} > 2"},
		{[]int{1}, add(num(1), ex(impl.OpMatch, 1, v(0), num(0), let(v(2), add(v(1), ex(impl.OpCall, 1, v(3)))))), "0:1[] 8:1[0]{0:0[] > 2}{9:1[3] 1:0[2 4] > 5} 1:0[1 2] > 3"},
		{[]int{1, 1}, ex(impl.OpMatch, 1, v(1), num(7), ex(impl.OpMatch, 1, v(3), v(2), add(v(2), v(4)))), "8:1[1]{0:7[] > 2}{8:1[3]{> 2}{1:0[2 4] > 6} > 4} > 2"},
		{nil, ex(impl.OpApply, 0, ex(impl.OpClose, 3, num(1), list()), num(2)), "0:1[] 6:0[] 10:3[0 1] 0:2[] 11:0[2 3] > 4"},
		{[]int{4}, ex(impl.OpMatch, 4, v(0), num(1), ex(impl.OpApply, 0, v(3), v(1)), num(2)), "8:4[0]{0:1[] > 1}{11:0[3 1] > 4}{0:2[] > 2} > 1"},
		{nil, ex(impl.OpMatch, 1, ex(impl.OpCall, 2, ex(impl.OpClose, 3, num(0), list()), list(6)), num(0), v(0)), "0:0[] 6:0[] 10:3[0 1] 0:6[] 6:0[] 6:1[3 4] 9:2[2 5] 8:1[6]{0:0[] > 7}{> 7} > 7"},
	} {
		p := ruleProgram()
		f := 0
		if len(b.params) > 0 {
			// The function 0 has no parameters, and nothing calls the function 1 but the body that is tried.
			f = 1
			p.Funcs[1].Params = b.params
			p.Funcs[1].Result = impl.TypeOf(p, b.params, b.e)
		}
		p.Funcs[f].Body = b.e
		n := normalOf(t, p)
		if got := show(n.Routines[f].Body); got != b.want {
			t.Errorf("Normalize(%v) has %s, want %s", b.e, got, b.want)
		}
	}
}

func TestNormalizeOfPrograms(t *testing.T) {
	n := normalOf(t, sumProgram())
	if got := show(n.Routines[0].Body); got != "0:5[] 0:7[] 6:0[] 6:1[1 2] 6:1[0 3] 9:1[4] > 5" {
		t.Errorf("the routine 0 is %s", got)
	}
	if got := show(n.Routines[1].Body); got != "8:1[0]{0:0[] > 1}{9:1[2] 1:0[1 3] > 4} > 1" {
		t.Errorf("the routine 1 is %s", got)
	}
	for _, p := range runs() {
		n := normalOf(t, p)
		if text(n.Decls) != text(p.Decls) || len(n.Routines) != len(p.Funcs) || !impl.ValidNormal(n) {
			t.Fatalf("Normalize(%v) = %v", p, n)
		}
		for f, r := range n.Routines {
			if text(r.Params) != text(p.Funcs[f].Params) || r.Result != p.Funcs[f].Result || len(r.Lent) != 0 {
				t.Fatalf("the routine %d of Normalize(%v) is %v", f, p, r)
			}
		}
	}
	for i, p := range badPrograms() {
		if n, ok := impl.Normalize(p); ok || text(n) != text(impl.Normal{}) {
			t.Errorf("Normalize of the bad program %d = %v, %v", i, n, ok)
		}
	}
}

func TestP47NormalFormsOfProgramsAreValidAndPlain(t *testing.T) {
	for _, p := range runs() {
		n := normalOf(t, p)
		if !impl.ValidNormal(n) || !impl.IsPlain(n) || len(n.Routines) != len(p.Funcs) {
			t.Fatalf("Normalize(%v) = %v", p, n)
		}
		for f, r := range n.Routines {
			if len(r.Lent) != 0 {
				t.Fatalf("the routine %d of Normalize(%v) is %v", f, p, r)
			}
		}
	}
}

// stepNodes counts the nodes of an expression that become steps.
func stepNodes(e impl.Expr) int {
	n := 1
	if e.Op == impl.OpVar || e.Op == impl.OpLet {
		n = 0
	}
	for _, kid := range e.Kids {
		n += stepNodes(kid)
	}
	return n
}

func TestP48EachStepComesFromANode(t *testing.T) {
	for _, p := range runs() {
		n := normalOf(t, p)
		for f, one := range p.Funcs {
			steps := impl.StepsOf(n.Routines[f].Body)
			if steps > impl.NodesOf(one.Body) || steps != stepNodes(one.Body) {
				t.Fatalf("the body %d of %v has %d steps and %d nodes", f, p, steps, impl.NodesOf(one.Body))
			}
		}
	}
}

// executed returns the outcome of a normal form, and fails if there is none.
func executed(t *testing.T, n impl.Normal, most int) impl.Outcome {
	t.Helper()
	o, ok := impl.EvalNormal(n, most)
	if !ok {
		t.Fatalf("EvalNormal(%v, %d) fails", n, most)
	}
	return o
}

func TestP49NormalFormsDoWhatProgramsDo(t *testing.T) {
	for _, p := range runs() {
		n := normalOf(t, p)
		for most, o := range evaluatedAll(t, p) {
			if other := executed(t, n, most); text(other) != text(o) {
				t.Fatalf("Eval(%v, %d) = %v, and EvalNormal is %v", p, most, o, other)
			}
		}
	}
	for _, r := range expressions() {
		// A program is given the expression as the body of its first function, which others may call, too.
		p := withBody(r.p, 0, r.x)
		n := normalOf(t, p)
		for _, most := range []int{0, 1, 2, 5, 40} {
			if o, other := evaluated(t, p, r.x, most), executed(t, n, most); text(o) != text(other) {
				t.Fatalf("Eval(%v, %d) = %v, and EvalNormal is %v", p, most, o, other)
			}
		}
	}
}

// ruleNormal has the signatures of ruleProgram, and valid bodies.
func ruleNormal() impl.Normal {
	n, _ := impl.Normalize(ruleProgram())
	return n
}

// withLent returns a normal form in which some parameters of a routine are lent.
func withLent(n impl.Normal, f int, lent ...int) impl.Normal {
	out := impl.Normal{Decls: n.Decls}
	out.Routines = append(out.Routines, n.Routines...)
	out.Routines[f].Lent = lent
	return out
}

// withBlock returns a normal form with another body of a routine.
func withBlock(n impl.Normal, f int, b impl.Block) impl.Normal {
	out := impl.Normal{Decls: n.Decls}
	out.Routines = append(out.Routines, n.Routines...)
	out.Routines[f].Body = b
	return out
}

// stepRule is a step and the type of the variable that it should define; -1 if it is not valid.
type stepRule struct {
	s impl.Step
	t int
}

// checkSteps tries steps in the scope of an integer, a list, two closures and a value of the type 4.
func checkSteps(t *testing.T, n impl.Normal, rules []stepRule) {
	t.Helper()
	vars := []int{0, 1, 2, 3, 4}
	for _, r := range rules {
		if of := impl.BlockType(n, vars, block(5, r.s)); of != r.t {
			t.Errorf("the step %s defines %d, want %d", show(block(5, r.s)), of, r.t)
		}
		if r.t >= 0 {
			continue
		}
		// A step that is not valid must not be passed over where its variable is not used.
		if of := impl.BlockType(n, vars, block(0, r.s)); of != -1 {
			t.Errorf("the block %s has the type %d", show(block(0, r.s)), of)
		}
	}
}

// into returns a step with another Into.
func into(s impl.Step, n int) impl.Step {
	s.Into = n
	return s
}

func TestStepsLikeExpressions(t *testing.T) {
	// A step whose arguments are variables is valid as the expression is that has these as kids.
	m := maker{seed: 17}
	vars := []int{0, 1, 2, 3, 4}
	valid := 0
	for try := 0; try < 30000; try++ {
		s := st(m.pick(15)-1, m.pick(6)-1)
		e := ex(s.Op, s.Num)
		for k := m.pick(5); k > 0; k-- {
			a := m.pick(7) - 1
			s.Args = append(s.Args, a)
			e.Kids = append(e.Kids, v(a))
		}
		want := impl.TypeOf(ruleProgram(), vars, e)
		if s.Op == impl.OpIf || s.Op == impl.OpMatch || s.Op == impl.OpVar || s.Op == impl.OpLet || s.Op == impl.OpDup {
			want = -1
		}
		if want >= 0 {
			valid++
		}
		if of := impl.BlockType(ruleNormal(), vars, block(5, s)); of != want {
			t.Fatalf("the step %s defines %d, want %d", show(block(5, s)), of, want)
		}
	}
	if valid < 500 {
		t.Errorf("only %d steps are valid", valid)
	}
}

func TestStepsThatNeitherChooseNorCount(t *testing.T) {
	kid := block(0)
	checkSteps(t, ruleNormal(), []stepRule{
		{st(impl.OpInt, 999), 0}, {st(impl.OpInt, -999), 0}, {st(impl.OpInt, 1000), -1}, {st(impl.OpInt, -1000), -1}, {st(impl.OpInt, 1, 0), -1},
		{st(impl.OpAdd, 0, 0, 0), 0}, {st(impl.OpSub, 1, 0, 0), -1}, {st(impl.OpMul, 0, 0), -1}, {st(impl.OpLess, 0, 0, 0, 0), -1}, {st(impl.OpAdd, 0, 0, 1), -1},
		{st(impl.OpAdd, 0, 0, 5), -1}, {st(impl.OpAdd, 0, -1, 0), -1}, {st(impl.OpAdd, 0, 1<<62, 0), -1}, {st(impl.OpAdd, 0, 0, -1<<63), -1},
		{st(impl.OpPrint, 0, 0), 0}, {st(impl.OpPrint, 0, 1), -1}, {st(impl.OpPrint, 2, 0), -1},
		{st(impl.OpCon, 0), 1}, {st(impl.OpCon, 1, 0, 1), 1}, {st(impl.OpCon, 3, 0, 1, 2), 4}, {st(impl.OpCon, 5), -1}, {st(impl.OpCon, -1), -1},
		{st(impl.OpCall, 2, 2, 1), 1}, {st(impl.OpCall, 4), -1}, {st(impl.OpCall, -1), -1}, {st(impl.OpCall, 2, 1, 2), -1},
		{st(impl.OpClose, 1), 3}, {st(impl.OpClose, 3, 0, 1), 2}, {st(impl.OpClose, 2, 2), -1}, {st(impl.OpClose, 0), -1}, {st(impl.OpClose, 4), -1}, {st(impl.OpClose, -1), -1},
		{st(impl.OpClose, 1<<62), -1}, {st(impl.OpClose, -1<<63), -1},
		{st(impl.OpApply, 0, 3, 1), 0}, {st(impl.OpApply, 1, 3, 1), -1}, {st(impl.OpApply, 0, 2, 1), -1}, {st(impl.OpApply, 0, 1, 1), -1},
		{st(impl.OpVar, 0), -1}, {st(impl.OpVar, 0, 0), -1}, {st(impl.OpLet, 0, 0, 0), -1}, {st(impl.OpMove, 0, 0), -1}, {st(impl.OpTail, 0), -1}, {st(-1, 0), -1}, {st(25, 0, 1), -1},
		{choice(impl.OpPrint, 0, 0, kid), -1}, {impl.Step{Op: impl.OpInt, Kids: []impl.Block{kid}}, -1}, {impl.Step{Op: impl.OpCall, Kids: []impl.Block{kid}}, -1},
	})
}

func TestStepsWithAnInto(t *testing.T) {
	con := st(impl.OpCon, 1, 0, 1)
	checkSteps(t, ruleNormal(), []stepRule{
		{into(con, 0), 1}, {into(con, 1), -1}, {into(con, 2), 1}, {into(con, 3), 1}, {into(con, 4), 1}, {into(con, 5), 1}, {into(con, 6), -1}, {into(con, -1), -1},
		{into(con, -2), -1}, {into(con, 1<<63-1), -1}, {into(con, -1<<63), -1},
		{into(st(impl.OpInt, 1), 2), -1}, {into(st(impl.OpAdd, 0, 0, 0), 2), -1}, {into(st(impl.OpClose, 1), 2), -1}, {into(st(impl.OpCall, 1, 1), 2), -1},
		{into(st(impl.OpApply, 0, 3, 1), 2), -1}, {into(choice(impl.OpIf, 0, 0, block(0), block(0)), 2), -1}, {into(choice(impl.OpMatch, 1, 1, block(0), block(0)), 2), -1},
	})
	before := block(6, st(impl.OpCon, 0), into(st(impl.OpCon, 0), 6))
	itself := block(6, st(impl.OpCon, 0), into(st(impl.OpCon, 0), 7))
	if impl.BlockType(ruleNormal(), []int{0, 1, 2, 3, 4}, before) != 1 || impl.BlockType(ruleNormal(), []int{0, 1, 2, 3, 4}, itself) != -1 {
		t.Error("an Into must be of a variable before the step")
	}
}

func TestStepsThatChoose(t *testing.T) {
	inner := block(5, st(impl.OpCon, 0))
	checkSteps(t, ruleNormal(), []stepRule{
		{choice(impl.OpIf, 0, 0, block(1), block(1)), 1}, {choice(impl.OpIf, 0, 0, block(3), block(3)), 3}, {choice(impl.OpIf, 0, 0, inner, block(1)), 1},
		{choice(impl.OpIf, 0, 0, block(0), block(1)), -1}, {choice(impl.OpIf, 0, 0, block(1), block(0)), -1}, {choice(impl.OpIf, 0, 0, block(5), block(5)), -1}, {choice(impl.OpIf, 0, 0, block(5), block(0)), -1},
		{choice(impl.OpIf, 0, 0, block(-1), block(-1)), -1}, {choice(impl.OpIf, 0, 1, block(0), block(0)), -1}, {choice(impl.OpIf, 1, 0, block(0), block(0)), -1}, {choice(impl.OpIf, 1, 1, block(0), block(0)), -1},
		{choice(impl.OpIf, 0, 5, block(0), block(0)), -1}, {choice(impl.OpIf, 0, 0), -1}, {choice(impl.OpIf, 0, 0, block(0)), -1}, {choice(impl.OpIf, 0, 0, block(0), block(0), block(0)), -1},
		{impl.Step{Op: impl.OpIf, Args: []int{0, 0}, Kids: []impl.Block{block(0), block(0)}}, -1}, {impl.Step{Op: impl.OpIf, Kids: []impl.Block{block(0), block(0)}}, -1},
		{choice(impl.OpMatch, 1, 1, block(0), block(5)), 0}, {choice(impl.OpMatch, 1, 1, block(1), block(6)), 1}, {choice(impl.OpMatch, 1, 1, inner, block(7, st(impl.OpCon, 1, 5, 6))), 1},
		{choice(impl.OpMatch, 4, 4, block(2), block(7), block(2)), 2}, {choice(impl.OpMatch, 4, 4, block(4), block(4), block(5)), 4}, {choice(impl.OpMatch, 4, 4, block(0), block(5), block(5)), -1},
		{choice(impl.OpMatch, 1, 1, block(5), block(5)), -1}, {choice(impl.OpMatch, 1, 1, block(0), block(6)), -1}, {choice(impl.OpMatch, 1, 1, block(0), block(7)), -1},
		{choice(impl.OpMatch, 1, 4, block(0), block(0)), -1}, {choice(impl.OpMatch, 4, 1, block(0), block(0), block(0)), -1}, {choice(impl.OpMatch, 4, 4, block(0), block(0)), -1},
		{choice(impl.OpMatch, 1, 1, block(0)), -1}, {choice(impl.OpMatch, 1, 1), -1}, {choice(impl.OpMatch, 1, 1, block(0), block(0), block(0)), -1}, {choice(impl.OpMatch, 0, 0, block(0), block(0)), -1},
		{choice(impl.OpMatch, 2, 2, block(0)), -1}, {choice(impl.OpMatch, 2, 2), -1}, {choice(impl.OpMatch, 5, 4, block(0)), -1}, {choice(impl.OpMatch, -1, 4, block(0)), -1},
		{choice(impl.OpMatch, 1, -1, block(0), block(0)), -1}, {impl.Step{Op: impl.OpMatch, Num: 1, Args: []int{1, 1}, Kids: []impl.Block{block(0), block(0)}}, -1},
		{choice(impl.OpIf, 0, 0, block(0), block(0, st(impl.OpPrint, 0, 1))), -1}, {choice(impl.OpMatch, 1, 1, block(0, st(impl.OpDup, 0, 0)), block(0)), -1},
		{choice(impl.OpMatch, 1, 1, block(0, st(impl.OpDup, 0, 1)), block(5, st(impl.OpOpen, 0, 1))), 0},
	})
}

func TestCountingSteps(t *testing.T) {
	vars := []int{0, 1, 2, 3, 4}
	for _, op := range []int{impl.OpDup, impl.OpDrop, impl.OpOpen, impl.OpReuse} {
		for arg := -1; arg <= 6; arg++ {
			want := -1
			if arg == 1 || arg == 4 || (arg == 2 || arg == 3) && op <= impl.OpDrop {
				want = 2
			}
			if of := impl.BlockType(ruleNormal(), vars, block(2, st(op, 0, arg))); of != want {
				t.Errorf("the counting step %d of %d gives %d, want %d", op, arg, of, want)
			}
		}
		if of := impl.BlockType(ruleNormal(), vars, block(5, st(op, 0, 1), st(impl.OpCon, 2), st(op, 0, 5), st(op, 0, 5))); of != 4 {
			t.Errorf("counting steps %d of what is defined give %d", op, of)
		}
		for _, bad := range []impl.Step{
			st(op, 1, 1), st(op, -1, 1), into(st(op, 0, 1), 2), into(st(op, 0, 1), -1), st(op, 0), st(op, 0, 1, 1), st(op, 0, -1<<63), st(op, 0, 1<<62), choice(op, 0, 1, block(0)),
		} {
			if of := impl.BlockType(ruleNormal(), vars, block(0, bad)); of != -1 {
				t.Errorf("the counting step %s gives %d", show(block(0, bad)), of)
			}
		}
		if of := impl.BlockType(ruleNormal(), vars, block(5, st(op, 0, 1))); of != -1 {
			t.Errorf("the counting step %d defines a variable of the type %d", op, of)
		}
	}
}

func TestLentParameters(t *testing.T) {
	n := ruleNormal()
	for _, c := range []struct {
		f    int
		lent []int
		ok   bool
	}{
		{1, []int{0}, true}, {2, []int{0}, true}, {2, []int{1}, true}, {2, []int{0, 1}, true}, {3, []int{1}, true}, {0, []int{}, true},
		{0, []int{0}, false}, {1, []int{1}, false}, {1, []int{-1}, false}, {1, []int{0, 0}, false}, {2, []int{1, 0}, false}, {2, []int{1, 1}, false},
		{3, []int{0}, false}, {3, []int{2}, false}, {3, []int{1, 2}, false}, {3, []int{3}, false}, {2, []int{0, 1, 2}, false}, {2, []int{-1, 0}, false}, {2, []int{1 << 62}, false}, {2, []int{-1 << 63}, false},
	} {
		lent := withLent(n, c.f, c.lent...)
		if impl.ValidNormal(lent) != c.ok {
			t.Errorf("ValidNormal of the routine %d with %v lent = %v", c.f, c.lent, !c.ok)
		}
		want := -1
		if c.ok {
			want = 0
		}
		if of := impl.BlockType(lent, []int{0}, block(0)); of != want {
			t.Errorf("BlockType with %v lent to the routine %d = %d, want %d", c.lent, c.f, of, want)
		}
	}
	checkSteps(t, withLent(n, 1, 0), []stepRule{
		{st(impl.OpClose, 1), -1}, {st(impl.OpCall, 1, 1), 0}, {st(impl.OpClose, 3, 0, 1), 2},
	})
	checkSteps(t, withLent(n, 3, 1), []stepRule{
		{st(impl.OpClose, 1), 3}, {st(impl.OpClose, 3, 0, 1), -1}, {st(impl.OpCall, 3, 0, 1, 0), 0},
	})
}

// normalWith returns a normal form with the declarations and signatures of a program, and with empty bodies.
func normalWith(p impl.Program) impl.Normal {
	out := impl.Normal{Decls: p.Decls}
	for _, f := range p.Funcs {
		out.Routines = append(out.Routines, impl.Routine{Params: f.Params, Result: f.Result})
	}
	return out
}

// badSignatures returns normal forms whose signatures are not valid.
func badSignatures() []impl.Normal {
	var out []impl.Normal
	for _, p := range badSigs() {
		out = append(out, normalWith(p))
	}
	many := normalWith(impl.Program{Funcs: make([]impl.Func, 5)})
	most := normalWith(impl.Program{Funcs: make([]impl.Func, 100000)})
	return append(out, many, most, withLent(ruleNormal(), 1, 1), withLent(ruleNormal(), 3, 0), withLent(ruleNormal(), 2, 1, 0))
}

func TestBlockTypeOfInvalidArguments(t *testing.T) {
	for i, n := range badSignatures() {
		if of := impl.BlockType(n, nil, block(0, st(impl.OpInt, 1))); of != -1 {
			t.Errorf("BlockType in the bad normal form %d = %d", i, of)
		}
		failsAsNormal(t, n)
	}
	n := ruleNormal()
	for _, vars := range [][]int{{-1}, {5}, {0, 0, -1}, {0, 1, 2, 3, 4, 5}, {1 << 62}} {
		if of := impl.BlockType(n, vars, block(0)); of != -1 {
			t.Errorf("BlockType with the variables %v = %d", vars, of)
		}
	}
	many := make([]int, 100000)
	if impl.BlockType(n, many, block(99999)) != 0 || impl.BlockType(n, many, block(100000)) != -1 || impl.BlockType(n, many, block(100000, st(impl.OpAdd, 0, 99999, 0))) != 0 {
		t.Error("BlockType with many variables")
	}
	for _, b := range []impl.Block{block(-1), block(2), block(1 << 62), block(-1 << 63), block(2, st(impl.OpInt, 1), st(impl.OpVar, 0)), block(0, st(impl.OpInt, 1000), st(impl.OpInt, 1))} {
		if of := impl.BlockType(n, []int{0, 1}, b); of != -1 {
			t.Errorf("BlockType(%s) = %d", show(b), of)
		}
	}
	if impl.BlockType(n, []int{4}, impl.Block{}) != 4 || impl.BlockType(n, nil, impl.Block{}) != -1 {
		t.Error("BlockType of the empty block")
	}
	for _, b := range tooLong() {
		if of := impl.BlockType(n, []int{0}, b); of != -1 {
			t.Errorf("BlockType of a block that is too long = %d", of)
		}
	}
	if impl.BlockType(n, []int{0}, wideBlock(600)) != 0 || impl.BlockType(n, []int{0}, deepBlock(600)) != 0 || impl.BlockType(n, []int{0}, doubledBlock(9)) != 0 {
		t.Error("BlockType of a block at the limit")
	}
	large := block(0, impl.Step{Op: impl.OpCall, Num: 1, Args: many})
	wide := block(0, choice(impl.OpIf, 0, 0, make([]impl.Block, 100000)...))
	if impl.BlockType(n, []int{0}, large) != -1 || impl.BlockType(n, []int{0}, wide) != -1 {
		t.Error("BlockType of a step with many arguments or kids")
	}
}

// failsAsNormal tells if a normal form that is not valid is taken for a valid one.
func failsAsNormal(t *testing.T, n impl.Normal) {
	t.Helper()
	if impl.ValidNormal(n) {
		t.Error("ValidNormal of a normal form that is none = true")
	}
	if o, ok := impl.EvalNormal(n, 9); ok || text(o) != text(impl.Outcome{}) {
		t.Errorf("EvalNormal of a normal form that is none = %v, %v", o, ok)
	}
	if plain, ok := impl.PlainOf(n); ok || text(plain) != text(impl.Normal{}) {
		t.Errorf("PlainOf a normal form that is none = %v, %v", plain, ok)
	}
}

func TestValidNormal(t *testing.T) {
	for _, n := range normals() {
		if !impl.ValidNormal(n) {
			t.Fatalf("ValidNormal(%v) = false", n)
		}
	}
	n := ruleNormal()
	for f, r := range n.Routines {
		// A body is looked at in the scope of its own parameters, and must have the type of its own result.
		for v := -1; v <= len(r.Params); v++ {
			want := v >= 0 && v < len(r.Params) && r.Params[v] == r.Result
			if other := withBlock(n, f, block(v)); impl.ValidNormal(other) != want {
				t.Errorf("ValidNormal of the routine %d that returns %d = %v", f, v, !want)
			}
		}
		for _, b := range append(tooLong(), block(1<<62), block(0, st(impl.OpInt, 1000))) {
			failsAsNormal(t, withBlock(n, f, b))
		}
	}
	longest := withBlock(withBlock(n, 0, wideBlock(600)), 3, deepBlock(600))
	if !impl.ValidNormal(longest) {
		t.Error("ValidNormal of two bodies with 600 steps = false")
	}
	less := impl.Normal{Decls: n.Decls, Routines: n.Routines[:3]}
	if !impl.ValidNormal(less) || impl.ValidNormal(withBlock(less, 2, block(2, st(impl.OpCall, 3)))) {
		t.Error("ValidNormal of three routines")
	}
	failsAsNormal(t, impl.Normal{})
}

// eachBody calls a function for each body of the valid normal forms.
func eachBody(check func(n impl.Normal, r impl.Routine)) {
	for _, n := range normals() {
		for _, r := range n.Routines {
			check(n, r)
		}
	}
}

func TestP50ResultsCanBeOtherVariables(t *testing.T) {
	eachBody(func(n impl.Normal, r impl.Routine) {
		vars := scopeWith(r.Params, 0)
		for t1 := range n.Decls {
			vars = append(vars, t1+1)
		}
		for _, b := range []impl.Block{block(0), block(0, st(impl.OpInt, 1), st(impl.OpPrint, 0, len(r.Params)))} {
			for v, of := range vars {
				b.Result = v
				if got := impl.BlockType(n, vars, b); got != of {
					t.Fatalf("BlockType(%v, %v, %s) = %d, want %d", n, vars, show(b), got, of)
				}
			}
		}
		for v, of := range r.Params {
			if got := impl.BlockType(n, r.Params, block(v, r.Body.Steps...)); got != of {
				t.Fatalf("BlockType(%v, %v, %s) = %d, want %d", n, r.Params, show(block(v, r.Body.Steps...)), got, of)
			}
		}
	})
}

// defines counts the variables that the steps of a block define, without those of their kids.
func defines(b impl.Block) int {
	n := 0
	for _, s := range b.Steps {
		if s.Op < impl.OpDup {
			n++
		}
	}
	return n
}

func TestP51BlocksCanGoOn(t *testing.T) {
	eachBody(func(n impl.Normal, r impl.Routine) {
		b := block(len(r.Params) + defines(r.Body))
		b.Steps = append(append(b.Steps, r.Body.Steps...), st(impl.OpInt, -7))
		if of := impl.BlockType(n, r.Params, b); of != 0 {
			t.Fatalf("BlockType(%v, %v, %s) = %d", n, r.Params, show(b), of)
		}
	})
	for steps := 597; steps <= 602; steps++ {
		want := 0
		if steps+1 > impl.MaxSteps {
			want = -1
		}
		for _, b := range []impl.Block{wideBlock(steps), deepBlock(steps)} {
			b = block(1+len(b.Steps), append(b.Steps, st(impl.OpInt, 3))...)
			if of := impl.BlockType(ruleNormal(), []int{0}, b); of != want {
				t.Errorf("BlockType of %d steps and one more = %d, want %d", steps, of, want)
			}
		}
	}
}

func TestP52BodiesOfRoutinesHaveTheTypesOfResults(t *testing.T) {
	eachBody(func(n impl.Normal, r impl.Routine) {
		if of := impl.BlockType(n, r.Params, r.Body); of != r.Result {
			t.Fatalf("BlockType(%v, %v, %s) = %d, want %d", n, r.Params, show(r.Body), of, r.Result)
		}
	})
}

func TestNormalFormsAgreeWithTheOracle(t *testing.T) {
	done, spent, printed := 0, 0, 0
	for _, n := range normals() {
		for most := 0; most <= 40; most += 1 + most/4 {
			o, want := executed(t, n, most), normalMeaning(n, most)
			if text(o) != text(want) {
				t.Fatalf("EvalNormal(%v, %d) = %v, want %v", n, most, o, want)
			}
			if o.Status == impl.Done {
				done++
			} else {
				spent++
			}
			if len(o.Out) > 1 {
				printed++
			}
		}
	}
	if done < 500 || spent < 500 || printed < 500 {
		t.Errorf("%d are done, %d spent, and %d print", done, spent, printed)
	}
}

// listNormal has lists and a function that lends its parameter.
func listNormal(steps ...impl.Step) impl.Normal {
	main := block(0, steps...)
	main.Result = defines(main) - 1
	second := block(1, st(impl.OpDup, 0, 0), choice(impl.OpMatch, 1, 0, block(1, st(impl.OpInt, -1)), block(1, st(impl.OpOpen, 0, 0), st(impl.OpPrint, 0, 1), st(impl.OpPrint, 0, 3))))
	return impl.Normal{Decls: lists(), Routines: []impl.Routine{{Body: main}, {Params: []int{1}, Lent: []int{0}, Body: second}}}
}

func TestEvalNormal(t *testing.T) {
	made := []impl.Step{st(impl.OpInt, 6), st(impl.OpCon, 0), into(st(impl.OpCon, 1, 0, 1), 2), st(impl.OpDrop, 0, 1)}
	for _, c := range []struct {
		n    impl.Normal
		most int
		want impl.Outcome
	}{
		{listNormal(st(impl.OpInt, 9)), 0, done(9, 0)},
		{listNormal(append(made, st(impl.OpCall, 1, 2))...), 1, done(6, 1, 6, 6)},
		{listNormal(append(made, st(impl.OpCall, 1, 2))...), 0, spent(0)},
		{listNormal(append(made, st(impl.OpCall, 1, 1))...), 40, done(-1, 1)},
		{listNormal(append(made, st(impl.OpReuse, 0, 2), st(impl.OpCall, 1, 2), st(impl.OpPrint, 0, 3), st(impl.OpCall, 1, 1))...), 1, spent(1, 6, 6, 6)},
		{listNormal(append(made, choice(impl.OpIf, 0, 0, block(0), block(3, st(impl.OpPrint, 0, 0))), st(impl.OpAdd, 0, 3, 0))...), 0, done(12, 0)},
		{listNormal(st(impl.OpInt, 0), choice(impl.OpIf, 0, 0, block(0), block(2, st(impl.OpInt, 4), st(impl.OpPrint, 0, 1))), st(impl.OpInt, 5), st(impl.OpSub, 0, 1, 2)), 0, done(-1, 0, 4)},
		{listNormal(append(made, choice(impl.OpMatch, 1, 2, block(0), block(5, st(impl.OpAdd, 0, 3, 0))), st(impl.OpPrint, 0, 3))...), 0, done(12, 0, 12)},
	} {
		if o := executed(t, c.n, c.most); text(o) != text(c.want) {
			t.Errorf("EvalNormal(%s, %d) = %v, want %v", show(c.n.Routines[0].Body), c.most, o, c.want)
		}
	}
	for _, most := range []int{-1, 41, 1<<63 - 1, -1 << 63} {
		if o, ok := impl.EvalNormal(listNormal(st(impl.OpInt, 9)), most); ok || text(o) != text(impl.Outcome{}) {
			t.Errorf("EvalNormal with %d calls = %v, %v", most, o, ok)
		}
	}
	long := withBlock(ruleNormal(), 0, wideBlock(600))
	if o := executed(t, long, 0); text(o) != text(done(0, 0)) {
		t.Errorf("EvalNormal of 600 steps = %v", o)
	}
}

func TestP53NormalFormsThatHaveEndedNeedNoMoreCalls(t *testing.T) {
	for _, n := range normals() {
		whole := executed(t, n, 40)
		for most := 0; most < 40; most += 3 {
			o := executed(t, n, most)
			if o.Status == impl.Done && (text(o) != text(whole) || o.Calls > most) {
				t.Fatalf("EvalNormal(%v, %d) = %v, and with 40 calls %v", n, most, o, whole)
			}
			if o.Status != impl.Done && (o.Status != impl.Spent || o.Calls != most || o.Value != 0 || !begins(whole.Out, o.Out)) {
				t.Fatalf("EvalNormal(%v, %d) = %v, and with 40 calls %v", n, most, o, whole)
			}
		}
		if whole.Status == impl.Done && text(executed(t, n, whole.Calls)) != text(whole) {
			t.Fatalf("EvalNormal(%v, %d) is not %v", n, whole.Calls, whole)
		}
		if whole.Status == impl.Done && whole.Calls > 0 && executed(t, n, whole.Calls-1).Status != impl.Spent {
			t.Fatalf("EvalNormal(%v, %d) is not spent", n, whole.Calls-1)
		}
	}
}

// plainOf returns the plain form of a valid normal form.
func plainOf(t *testing.T, n impl.Normal) impl.Normal {
	t.Helper()
	plain, ok := impl.PlainOf(n)
	if !ok {
		t.Fatalf("PlainOf(%v) fails", n)
	}
	return plain
}

// doesTheSame fails if another normal form does not do what a normal form does.
func doesTheSame(t *testing.T, n impl.Normal, other impl.Normal) {
	t.Helper()
	for most := 0; most <= 40; most += 5 {
		if o, got := executed(t, n, most), executed(t, other, most); text(got) != text(o) {
			t.Fatalf("EvalNormal(%v, %d) = %v, and of %v it is %v", n, most, o, other, got)
		}
	}
}

func TestP54CountingStepsDoNothing(t *testing.T) {
	for _, n := range normals() {
		doesTheSame(t, n, plainOf(t, n))
	}
}

// withoutCounts returns what a body should be in PlainOf.
func withoutCounts(b impl.Block) impl.Block {
	out := impl.Block{Result: b.Result}
	for _, s := range b.Steps {
		if s.Op < impl.OpDup {
			one := st(s.Op, s.Num, s.Args...)
			for _, kid := range s.Kids {
				one.Kids = append(one.Kids, withoutCounts(kid))
			}
			out.Steps = append(out.Steps, one)
		}
	}
	return out
}

func TestPlainOf(t *testing.T) {
	less := 0
	for _, n := range normals() {
		plain := plainOf(t, n)
		if text(plain.Decls) != text(n.Decls) || len(plain.Routines) != len(n.Routines) || !impl.ValidNormal(plain) {
			t.Fatalf("PlainOf(%v) = %v", n, plain)
		}
		for f, r := range n.Routines {
			r.Body = withoutCounts(r.Body)
			if text(plain.Routines[f]) != text(r) {
				t.Fatalf("the routine %d of PlainOf is %v, want %v", f, plain.Routines[f], r)
			}
			less += impl.StepsOf(n.Routines[f].Body) - impl.StepsOf(r.Body)
		}
	}
	if less < 500 {
		t.Errorf("only %d counting steps are left out", less)
	}
}

func TestP55WhatIsPlainStaysSo(t *testing.T) {
	for _, n := range append(normals(), balancedForms()...) {
		plain := plainOf(t, n)
		if !impl.IsPlain(plain) || text(plainOf(t, plain)) != text(plain) {
			t.Fatalf("PlainOf(%v) = %v", n, plain)
		}
	}
}

func TestP56OnlyCountingStepsAreLeftOut(t *testing.T) {
	for _, n := range append(normals(), balancedForms()...) {
		plain := plainOf(t, n)
		less := 0
		for _, many := range impl.CountsOf(n) {
			less += many
		}
		for f, r := range n.Routines {
			less -= impl.StepsOf(r.Body) - impl.StepsOf(plain.Routines[f].Body)
		}
		if less != 0 {
			t.Fatalf("CountsOf(%v) = %v, and PlainOf has other steps less", n, impl.CountsOf(n))
		}
	}
}
