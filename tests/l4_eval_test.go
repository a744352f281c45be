package tests

import (
	"testing"

	"loop.example/refcountml/impl"
)

// integers returns integers, those at the limits and at 0 with their neighbours among them.
func integers() []int {
	out := []int{-999, -998, -997, -500, -499, -334, -333, -101, -32, -31, -3, -2, -1, 0, 1, 2, 3, 31, 32, 99, 100, 333, 334, 499, 500, 501, 997, 998, 999}
	for n := -960; n < 999; n += 89 {
		out = append(out, n)
	}
	return out
}

// primOf returns what Prim should.
func primOf(op int, a int, b int) int {
	if op < impl.OpAdd || op > impl.OpLess || a < -999 || a > 999 || b < -999 || b > 999 {
		return 0
	}
	m := &oracle{}
	return m.simple(op, 0, []thing{{n: a}, {n: b}}).n
}

func TestPrimOfAllOperations(t *testing.T) {
	numbers := append(integers(), oddNumbers()...)
	for op := -1; op <= 26; op++ {
		for _, a := range numbers {
			for _, b := range numbers {
				if n := impl.Prim(op, a, b); n != primOf(op, a, b) {
					t.Fatalf("Prim(%d, %d, %d) = %d, want %d", op, a, b, n, primOf(op, a, b))
				}
			}
		}
	}
}

func TestPrimAtLimits(t *testing.T) {
	for _, c := range [][4]int{
		{impl.OpAdd, 500, 499, 999}, {impl.OpAdd, 500, 500, 999}, {impl.OpAdd, 999, 999, 999}, {impl.OpAdd, -500, -499, -999}, {impl.OpAdd, -500, -500, -999},
		{impl.OpAdd, 999, -999, 0}, {impl.OpAdd, 1, -2, -1}, {impl.OpSub, 3, 5, -2}, {impl.OpSub, -500, 499, -999}, {impl.OpSub, -500, 500, -999},
		{impl.OpSub, 999, -1, 999}, {impl.OpSub, 999, 1, 998}, {impl.OpMul, 333, 3, 999}, {impl.OpMul, 500, 2, 999}, {impl.OpMul, -500, 2, -999},
		{impl.OpMul, -333, 3, -999}, {impl.OpMul, -32, -32, 999}, {impl.OpMul, -999, -999, 999}, {impl.OpMul, 999, -999, -999}, {impl.OpMul, 0, -999, 0},
		{impl.OpMul, -3, -4, 12}, {impl.OpLess, -999, 999, 1}, {impl.OpLess, 999, -999, 0}, {impl.OpLess, -1, 0, 1}, {impl.OpLess, 0, 0, 0}, {impl.OpLess, -2, -1, 1},
		{impl.OpAdd, 1000, -1, 0}, {impl.OpAdd, -1, 1000, 0}, {impl.OpAdd, -1000, 1, 0}, {impl.OpLess, -1000, 0, 0}, {impl.OpLess, 0, 1000, 0},
		{impl.OpInt, 1, 2, 0}, {impl.OpPrint, 1, 2, 0}, {impl.OpCon, 1, 2, 0}, {impl.OpIf, 1, 2, 0}, {-1, 1, 2, 0},
	} {
		if n := impl.Prim(c[0], c[1], c[2]); n != c[3] {
			t.Errorf("Prim(%d, %d, %d) = %d, want %d", c[0], c[1], c[2], n, c[3])
		}
	}
}

func TestP32ResultsAreIntegers(t *testing.T) {
	numbers := append(integers(), oddNumbers()...)
	for op := -1; op <= 26; op++ {
		for _, a := range numbers {
			for _, b := range numbers {
				n := impl.Prim(op, a, b)
				if n < -impl.MaxInt || n > impl.MaxInt {
					t.Fatalf("Prim(%d, %d, %d) = %d", op, a, b, n)
				}
				if other := impl.Prim(op, b, a); (op == impl.OpAdd || op == impl.OpMul) && other != n {
					t.Fatalf("Prim(%d, %d, %d) = %d, and %d in the other order", op, a, b, n, other)
				}
			}
		}
	}
}

func TestP33DifferencesTurnTheirSigns(t *testing.T) {
	for a := -999; a <= 999; a++ {
		if n := impl.Prim(impl.OpAdd, a, 0); n != a {
			t.Fatalf("%d and 0 give %d", a, n)
		}
		for _, b := range integers() {
			if n := impl.Prim(impl.OpSub, a, b); n != -impl.Prim(impl.OpSub, b, a) {
				t.Fatalf("%d minus %d is %d", a, b, n)
			}
		}
	}
}

func TestP34OneOfTwoIntegersIsLess(t *testing.T) {
	for _, a := range integers() {
		for _, b := range integers() {
			one, other := impl.Prim(impl.OpLess, a, b), impl.Prim(impl.OpLess, b, a)
			if a == b && (one != 0 || other != 0) {
				t.Fatalf("OpLess of %d twice gives %d", a, one)
			}
			if a != b && !(one == 1 && other == 0 || one == 0 && other == 1) {
				t.Fatalf("OpLess of %d and %d gives %d and %d", a, b, one, other)
			}
		}
	}
}

// downProgram counts down from a number to 0 by calls, and prints what it comes by.
func downProgram(from int) impl.Program {
	again := add(ex(impl.OpPrint, 0, v(0)), ex(impl.OpCall, 1, ex(impl.OpSub, 0, v(0), num(1))))
	return impl.Program{Funcs: []impl.Func{{Body: ex(impl.OpCall, 1, num(from))}, {Params: []int{0}, Body: ex(impl.OpIf, 0, v(0), again, num(7))}}}
}

// nestProgram calls functions in the arguments of calls, and prints after each of them.
func nestProgram() impl.Program {
	return impl.Program{Funcs: []impl.Func{
		{Body: ex(impl.OpCall, 1, ex(impl.OpCall, 1, ex(impl.OpCall, 2, num(4), ex(impl.OpCall, 1, num(9)))))},
		{Params: []int{0}, Body: ex(impl.OpPrint, 0, add(v(0), num(1)))},
		{Params: []int{0, 0}, Body: ex(impl.OpPrint, 0, ex(impl.OpSub, 0, ex(impl.OpCall, 1, v(0)), v(1)))},
	}}
}

// foreverProgram calls its first function again and again.
func foreverProgram() impl.Program {
	return impl.Program{Funcs: []impl.Func{{Body: let(ex(impl.OpPrint, 0, num(3)), ex(impl.OpCall, 0))}}}
}

// runs returns valid programs, those that need many calls and those that never end among them.
func runs() []impl.Program {
	out := append(programs(), nestProgram(), foreverProgram())
	for _, from := range []int{0, 1, 2, 7, 38, 39, 40, 41, 100, -1} {
		out = append(out, downProgram(from))
	}
	return out
}

// run is a program and an expression without variables of the type 0.
type run struct {
	p impl.Program
	x impl.Expr
}

// expressions returns expressions that can be evaluated.
func expressions() []run {
	var out []run
	for i, p := range runs() {
		out = append(out, run{p, p.Funcs[0].Body}, run{p, ex(impl.OpPrint, 0, ex(impl.OpCall, 0))})
		if text(p.Decls) == text(emptyProgram().Decls) {
			// The maker would go on for ever: there are no values to be made.
			continue
		}
		for seed := 0; seed < 3; seed++ {
			m := maker{p: p, seed: 300*i + seed}
			out = append(out, run{p, m.fitting(nil, 0, 1+m.pick(6), 8+7*seed)})
		}
	}
	return out
}

// evaluated returns the outcome of an expression, and fails if there is none.
func evaluated(t *testing.T, p impl.Program, x impl.Expr, most int) impl.Outcome {
	t.Helper()
	o, ok := impl.EvalExpr(p, x, most)
	if !ok {
		t.Fatalf("EvalExpr(%v, %v, %d) fails", p, x, most)
	}
	return o
}

// The promises say little if all evaluations are alike.
func TestRunsAreOfAllKinds(t *testing.T) {
	done, spent, printed, called, nothing := 0, 0, 0, 0, 0
	for _, r := range expressions() {
		for _, most := range []int{0, 3, 40} {
			o := evaluated(t, r.p, r.x, most)
			if o.Status == impl.Done {
				done++
			} else {
				spent++
			}
			if len(o.Out) > 2 {
				printed++
			}
			if o.Calls > 1 {
				called++
			}
			if o.Status == impl.Spent && len(o.Out) > 0 {
				nothing++
			}
		}
	}
	if done < 200 || spent < 200 || printed < 100 || called < 200 || nothing < 50 {
		t.Errorf("%d done, %d spent, %d print, %d call, %d print before they are spent", done, spent, printed, called, nothing)
	}
}

func TestEvaluationsAgreeWithTheOracle(t *testing.T) {
	for _, r := range expressions() {
		for most := 0; most <= 40; most += 1 + most/5 {
			if o, want := evaluated(t, r.p, r.x, most), exprMeaning(r.p, r.x, most); text(o) != text(want) {
				t.Fatalf("EvalExpr(%v, %v, %d) = %v, want %v", r.p, r.x, most, o, want)
			}
		}
	}
}

// makingProgram has functions that make lists and closures, and print when they are called.
func makingProgram() impl.Program {
	return impl.Program{Decls: []impl.Decl{dataOf(nil, []int{0, 1}), arrow(0, 0), dataOf([]int{0, 0, 0}, []int{2})}, Funcs: []impl.Func{
		{Body: num(0)},
		{Params: []int{0}, Body: ex(impl.OpPrint, 0, v(0))},
		{Params: []int{0, 0, 0}, Body: ex(impl.OpSub, 0, ex(impl.OpMul, 0, v(0), num(10)), ex(impl.OpSub, 0, v(1), v(2)))},
		{Params: []int{1, 0}, Body: ex(impl.OpMatch, 1, v(0), v(1), add(ex(impl.OpCall, 3, v(3), v(1)), v(2)))},
	}}
}

// prints returns an expression that prints a number.
func prints(n int) impl.Expr {
	return ex(impl.OpPrint, 0, num(n))
}

// calls1 returns a call of the function 1 with a number.
func calls1(n int) impl.Expr {
	return ex(impl.OpCall, 1, num(n))
}

// evaluation is an expression, a number of calls and the outcome that there should be.
type evaluation struct {
	x    impl.Expr
	most int
	want impl.Outcome
}

// done returns the outcome of an evaluation that has ended.
func done(value int, calls int, out ...int) impl.Outcome {
	return impl.Outcome{Value: value, Calls: calls, Out: out}
}

// spent returns the outcome of an evaluation that is cut off.
func spent(calls int, out ...int) impl.Outcome {
	return impl.Outcome{Status: impl.Spent, Calls: calls, Out: out}
}

// checkEvaluations tries expressions of makingProgram.
func checkEvaluations(t *testing.T, list []evaluation) {
	t.Helper()
	for _, e := range list {
		if o := evaluated(t, makingProgram(), e.x, e.most); text(o) != text(e.want) {
			t.Errorf("EvalExpr(%v, %d) = %v, want %v", e.x, e.most, o, e.want)
		}
	}
}

func TestEvaluationsWithoutCalls(t *testing.T) {
	triple := ex(impl.OpCon, 2, prints(4), prints(5), prints(6))
	checkEvaluations(t, []evaluation{
		{num(-999), 0, done(-999, 0)},
		{ex(impl.OpMul, 0, num(100), num(-10)), 0, done(-999, 0)},
		{ex(impl.OpSub, 0, ex(impl.OpAdd, 0, num(999), num(1)), num(1)), 0, done(998, 0)},
		{ex(impl.OpSub, 0, prints(2), prints(5)), 0, done(-3, 0, 2, 5)},
		{ex(impl.OpLess, 0, prints(-1), prints(0)), 0, done(1, 0, -1, 0)},
		{ex(impl.OpPrint, 0, prints(8)), 0, done(8, 0, 8, 8)},
		{let(prints(5), let(prints(6), ex(impl.OpSub, 0, v(0), v(1)))), 0, done(-1, 0, 5, 6)},
		{let(num(5), let(let(num(6), v(1)), add(v(0), v(1)))), 0, done(11, 0)},
		{let(num(5), add(let(num(6), v(1)), let(num(7), v(1)))), 0, done(13, 0)},
		{ex(impl.OpIf, 0, prints(-1), prints(2), prints(3)), 0, done(2, 0, -1, 2)},
		{ex(impl.OpIf, 0, prints(0), prints(2), prints(3)), 0, done(3, 0, 0, 3)},
		{ex(impl.OpMatch, 1, list(), num(1), num(2)), 0, done(1, 0)},
		{ex(impl.OpMatch, 1, list(8, 9), num(1), ex(impl.OpMatch, 1, v(1), num(2), ex(impl.OpSub, 0, v(0), v(2)))), 0, done(-1, 0)},
		{ex(impl.OpMatch, 3, triple, ex(impl.OpSub, 0, v(0), ex(impl.OpSub, 0, v(1), v(2))), num(0)), 0, done(5, 0, 4, 5, 6)},
		{ex(impl.OpMatch, 3, ex(impl.OpCon, 3, ex(impl.OpClose, 1)), num(3), num(4)), 0, done(4, 0)},
		{let(triple, ex(impl.OpMatch, 3, v(0), ex(impl.OpMatch, 3, v(0), ex(impl.OpSub, 0, v(1), v(6)), num(0)), num(0))), 0, done(-2, 0, 4, 5, 6)},
		{let(ex(impl.OpClose, 2, prints(1), prints(2)), num(5)), 0, done(5, 0, 1, 2)},
	})
}

func TestEvaluationsWithCalls(t *testing.T) {
	three := ex(impl.OpCall, 2, calls1(1), calls1(2), calls1(3))
	closure := ex(impl.OpClose, 2, calls1(1), calls1(2))
	checkEvaluations(t, []evaluation{
		{three, 40, done(11, 4, 1, 2, 3)}, {three, 4, done(11, 4, 1, 2, 3)}, {three, 3, spent(3, 1, 2, 3)}, {three, 2, spent(2, 1, 2)}, {three, 0, spent(0)},
		{ex(impl.OpApply, 0, closure, calls1(3)), 4, done(11, 4, 1, 2, 3)}, {ex(impl.OpApply, 0, closure, calls1(3)), 3, spent(3, 1, 2, 3)},
		{let(closure, ex(impl.OpSub, 0, ex(impl.OpApply, 0, v(0), num(3)), ex(impl.OpApply, 0, v(0), num(7)))), 4, done(-4, 4, 1, 2)},
		{let(closure, ex(impl.OpApply, 0, v(0), ex(impl.OpApply, 0, v(0), num(3)))), 4, done(19, 4, 1, 2)},
		{ex(impl.OpCall, 3, list(1, 2, 3), num(4)), 4, done(10, 4)}, {ex(impl.OpCall, 3, list(1, 2, 3), num(4)), 3, spent(3)},
		{add(calls1(5), prints(6)), 0, spent(0)}, {add(prints(6), calls1(5)), 0, spent(0, 6)}, {add(calls1(5), prints(6)), 1, done(11, 1, 5, 6)},
		{ex(impl.OpPrint, 0, calls1(5)), 0, spent(0)}, {let(calls1(5), prints(6)), 0, spent(0)},
		{ex(impl.OpIf, 0, calls1(1), prints(2), prints(3)), 0, spent(0)}, {ex(impl.OpIf, 0, calls1(0), prints(2), prints(3)), 1, done(3, 1, 0, 3)},
		{ex(impl.OpIf, 0, num(0), calls1(2), num(3)), 0, done(3, 0)}, {ex(impl.OpIf, 0, num(1), num(2), calls1(3)), 0, done(2, 0)},
		{ex(impl.OpMatch, 1, ex(impl.OpCon, 1, calls1(2), list()), prints(1), prints(2)), 0, spent(0)},
		{ex(impl.OpMatch, 1, list(2), calls1(1), v(0)), 0, done(2, 0)},
		{ex(impl.OpCall, 0), 1, done(0, 1)}, {ex(impl.OpCall, 0), 0, spent(0)},
	})
}

// The values of a closure must stay what they are when it is called in a call of itself.
func TestClosuresKeepTheirValues(t *testing.T) {
	p := impl.Program{Decls: []impl.Decl{arrow(0, 0), arrow(1, 0)}, Funcs: []impl.Func{
		{Body: let(ex(impl.OpClose, 1, num(3), num(20)), ex(impl.OpCall, 2, v(0), num(5)))},
		{Params: []int{0, 0, 0}, Body: ex(impl.OpSub, 0, ex(impl.OpMul, 0, v(2), v(0)), v(1))},
		{Params: []int{1, 0}, Body: ex(impl.OpIf, 0, v(1), let(ex(impl.OpApply, 0, v(0), v(1)), add(ex(impl.OpPrint, 0, v(2)), ex(impl.OpCall, 2, v(0), ex(impl.OpSub, 0, v(1), num(1))))), num(0))},
	}}
	if o := evaluated(t, p, p.Funcs[0].Body, 40); text(o) != text(done(-55, 11, -5, -8, -11, -14, -17)) {
		t.Errorf("EvalExpr = %v", o)
	}
}

func TestEvalAtLimits(t *testing.T) {
	for _, c := range []struct{ from, calls int }{{0, 1}, {1, 2}, {38, 39}, {39, 40}, {40, -1}, {41, -1}, {-1, -1}} {
		if n := impl.CallsOf(downProgram(c.from)); n != c.calls {
			t.Errorf("CallsOf counting down from %d = %d, want %d", c.from, n, c.calls)
		}
	}
	if o, ok := impl.Eval(downProgram(2), 3); !ok || text(o) != text(done(10, 3, 2, 1)) {
		t.Errorf("Eval = %v", o)
	}
	if o, ok := impl.Eval(downProgram(2), 2); !ok || text(o) != text(spent(2, 2, 1)) {
		t.Errorf("Eval = %v", o)
	}
	if o, ok := impl.Eval(foreverProgram(), 40); !ok || o.Status != impl.Spent || o.Calls != 40 || len(o.Out) != 41 {
		t.Errorf("Eval = %v", o)
	}
	if o, ok := impl.Eval(nestProgram(), 5); !ok || text(o) != text(done(-3, 5, 10, 5, -5, -4, -3)) {
		t.Errorf("Eval = %v", o)
	}
	for _, most := range []int{-1, 41, -1 << 63, 1<<63 - 1} {
		failsToEval(t, sumProgram(), num(1), most)
		if o, ok := impl.Eval(sumProgram(), most); ok || text(o) != text(impl.Outcome{}) {
			t.Errorf("Eval with %d calls = %v, %v", most, o, ok)
		}
	}
}

// failsToEval tells if EvalExpr does not fail, or gives more than its zero value.
func failsToEval(t *testing.T, p impl.Program, x impl.Expr, most int) {
	t.Helper()
	if o, ok := impl.EvalExpr(p, x, most); ok || text(o) != text(impl.Outcome{}) {
		t.Errorf("EvalExpr with %d calls = %v, %v", most, o, ok)
	}
}

func TestEvalOfInvalidArguments(t *testing.T) {
	for i, p := range badPrograms() {
		failsToEval(t, p, num(1), 9)
		if o, ok := impl.Eval(p, 9); ok || text(o) != text(impl.Outcome{}) {
			t.Errorf("Eval of the bad program %d = %v, %v", i, o, ok)
		}
		if n := impl.CallsOf(p); n != -1 {
			t.Errorf("CallsOf the bad program %d = %d", i, n)
		}
	}
	for _, x := range []impl.Expr{list(), list(1), ex(impl.OpClose, 3, num(1)), v(0), v(-1), num(1000), add(num(1), list()), ex(impl.OpCall, 4), ex(impl.OpLet, 1, num(1), num(1)), ex(impl.OpDup, 0, num(1)), deep(31), wide(40), endless(), doubled(60)} {
		failsToEval(t, mapProgram(), x, 9)
	}
	if o := evaluated(t, mapProgram(), deep(30), 0); o.Value != 1 || len(o.Out) != 29 {
		t.Errorf("EvalExpr of 30 nodes = %v", o)
	}
}

// passed returns lists of integers to be passed to a function with some parameters.
func passed(params int) [][]int {
	out := [][]int{nil}
	for n := 0; n < params; n++ {
		var longer [][]int
		for _, args := range out {
			for _, arg := range []int{-999, -1, 0, 1, 2, 17} {
				longer = append(longer, scopeWith(args, arg))
			}
		}
		out = longer
	}
	return out
}

// callWith returns a call with integers.
func callWith(f int, args []int) impl.Expr {
	out := ex(impl.OpCall, f)
	for _, n := range args {
		out.Kids = append(out.Kids, num(n))
	}
	return out
}

// hasAll reports whether all numbers of a list are n.
func hasAll(list []int, n int) bool {
	for _, m := range list {
		if m != n {
			return false
		}
	}
	return true
}

// mixed returns the arguments of one list at some places, and those of another one at all others.
func mixed(places []int, there []int, elsewhere []int) []int {
	var out []int
	for i := range elsewhere {
		if has(places, i) {
			out = append(out, there[i])
		} else {
			out = append(out, elsewhere[i])
		}
	}
	return out
}

func TestP30UnusedParametersDoNotMatter(t *testing.T) {
	tried, differ := 0, 0
	for _, p := range runs() {
		for f, one := range p.Funcs {
			if one.Result != 0 || !hasAll(one.Params, 0) {
				continue
			}
			unused := impl.UnusedParams(p, f)
			all := passed(len(one.Params))
			for i, args := range all {
				other := all[(7*i+5)%len(all)]
				o := evaluated(t, p, callWith(f, args), 12)
				if same := evaluated(t, p, callWith(f, mixed(unused, other, args)), 12); text(same) != text(o) {
					t.Fatalf("%d with %v gives %v, and with other unused parameters %v: %v", f, args, o, same, p)
				}
				if len(unused) > 0 {
					tried++
				}
				if text(evaluated(t, p, callWith(f, other), 12)) != text(o) {
					differ++
				}
			}
		}
	}
	if tried < 100 || differ < 100 {
		t.Errorf("%d calls have unused parameters, and %d depend on the used ones", tried, differ)
	}
}

// evaluatedAll returns the outcomes of a program with 0 to 40 calls.
func evaluatedAll(t *testing.T, p impl.Program) []impl.Outcome {
	t.Helper()
	var out []impl.Outcome
	for most := 0; most <= impl.MaxCalls; most++ {
		o, ok := impl.Eval(p, most)
		if !ok {
			t.Fatalf("Eval(%v, %d) fails", p, most)
		}
		out = append(out, o)
	}
	return out
}

func TestP35WhatHasEndedNeedsNoMore(t *testing.T) {
	for _, p := range runs() {
		all := evaluatedAll(t, p)
		for most, o := range all {
			if o.Status == impl.Done && (text(o) != text(all[40]) || o.Calls > most) {
				t.Fatalf("Eval(%v, %d) = %v, and with 40 calls %v", p, most, o, all[40])
			}
			if o.Status != impl.Done && o.Status != impl.Spent {
				t.Fatalf("Eval(%v, %d) = %v", p, most, o)
			}
		}
	}
}

// begins reports whether a list begins with another one.
func begins(list []int, with []int) bool {
	return len(with) <= len(list) && same(list[:len(with)], with...)
}

func TestP36WhatIsCutOffHasBegunAsTheWhole(t *testing.T) {
	for _, p := range runs() {
		all := evaluatedAll(t, p)
		for most, o := range all {
			if o.Status == impl.Spent && (o.Calls != most || o.Value != 0 || !begins(all[40].Out, o.Out)) {
				t.Fatalf("Eval(%v, %d) = %v, and with 40 calls %v", p, most, o, all[40])
			}
		}
	}
}

func TestP37CallsAreNeededExactly(t *testing.T) {
	for _, p := range runs() {
		all := evaluatedAll(t, p)
		for most, o := range all {
			if o.Status != impl.Done {
				continue
			}
			if all[o.Calls].Status != impl.Done || o.Calls > 0 && all[o.Calls-1].Status != impl.Spent {
				t.Fatalf("Eval(%v, %d) = %v, with as many calls %v", p, most, o, all[o.Calls])
			}
		}
	}
}

func TestP38ProgramsNeedTheirCalls(t *testing.T) {
	needs, never := 0, 0
	for _, p := range runs() {
		want := -1
		for most, o := range evaluatedAll(t, p) {
			if want < 0 && o.Status == impl.Done {
				want = most
			}
		}
		if n := impl.CallsOf(p); n != want {
			t.Fatalf("CallsOf(%v) = %d, want %d", p, n, want)
		}
		if want > 0 {
			needs++
		}
		if want < 0 {
			never++
		}
	}
	if needs < 20 || never < 20 {
		t.Errorf("%d programs need calls, and %d never end", needs, never)
	}
}

// inTurn returns the outcome of an expression and then, with the calls that are left, of another one, and both values.
func inTurn(t *testing.T, p impl.Program, x impl.Expr, y impl.Expr, most int) (impl.Outcome, int, int) {
	t.Helper()
	first := evaluated(t, p, x, most)
	if first.Status == impl.Spent {
		return first, 0, 0
	}
	second := evaluated(t, p, y, most-first.Calls)
	return impl.Outcome{Status: second.Status, Calls: first.Calls + second.Calls, Out: scopeWith(first.Out, second.Out...)}, first.Value, second.Value
}

// pairs calls a function for pairs of expressions of one program that are together small enough, and for numbers of calls.
func pairs(t *testing.T, check func(p impl.Program, x impl.Expr, y impl.Expr, most int)) {
	t.Helper()
	all := expressions()
	tried := 0
	for i, r := range all {
		for k := i; k < len(all) && k < i+4; k++ {
			if text(all[k].p) != text(r.p) || nodesOf(r.x)+nodesOf(all[k].x) >= impl.MaxNodes {
				continue
			}
			for _, most := range []int{0, 1, 2, 5, 13, 40} {
				check(r.p, r.x, all[k].x, most)
				check(r.p, all[k].x, r.x, most)
				tried++
			}
		}
	}
	if tried < 1000 {
		t.Errorf("only %d pairs", tried)
	}
}

func TestP39SumsAreEvaluatedFromLeftToRight(t *testing.T) {
	pairs(t, func(p impl.Program, x impl.Expr, y impl.Expr, most int) {
		want, a, b := inTurn(t, p, x, y, most)
		if want.Status == impl.Done {
			want.Value = impl.Prim(impl.OpAdd, a, b)
		}
		if o := evaluated(t, p, add(x, y), most); text(o) != text(want) {
			t.Fatalf("the sum of %v and %v in %v with %d calls is %v, want %v", x, y, p, most, o, want)
		}
	})
}

func TestP40ProgramsBeginWithTheirFirstFunction(t *testing.T) {
	for _, p := range runs() {
		for most, o := range evaluatedAll(t, p) {
			if first := evaluated(t, p, p.Funcs[0].Body, most); text(first) != text(o) {
				t.Fatalf("Eval(%v, %d) = %v, and its first body gives %v", p, most, o, first)
			}
		}
	}
}

// changed calls a function for expressions with their outcomes, and for numbers of calls.
func changed(t *testing.T, check func(p impl.Program, x impl.Expr, most int, o impl.Outcome)) {
	t.Helper()
	for _, r := range expressions() {
		for _, most := range []int{0, 1, 2, 3, 9, 40} {
			check(r.p, r.x, most, evaluated(t, r.p, r.x, most))
		}
	}
}

// checkChanged tells if an expression is not evaluated to an outcome, unless it is too large to be evaluated at all.
func checkChanged(t *testing.T, p impl.Program, x impl.Expr, most int, want impl.Outcome) {
	t.Helper()
	if nodesOf(x) > impl.MaxNodes {
		failsToEval(t, p, x, most)
		return
	}
	if o := evaluated(t, p, x, most); text(o) != text(want) {
		t.Fatalf("EvalExpr(%v, %v, %d) = %v, want %v", p, x, most, o, want)
	}
}

func TestP41WhatIsPrintedComesLast(t *testing.T) {
	changed(t, func(p impl.Program, x impl.Expr, most int, o impl.Outcome) {
		if o.Status == impl.Done {
			o.Out = scopeWith(o.Out, o.Value)
		}
		checkChanged(t, p, ex(impl.OpPrint, 0, x), most, o)
	})
}

func TestP42OneSideIsChosen(t *testing.T) {
	changed(t, func(p impl.Program, x impl.Expr, most int, o impl.Outcome) {
		if o.Status == impl.Done {
			o.Value = map[bool]int{true: 31, false: -32}[o.Value != 0]
		}
		checkChanged(t, p, ex(impl.OpIf, 0, x, num(31), num(-32)), most, o)
	})
}

func TestP43BoundExpressionsAreEvaluatedFirst(t *testing.T) {
	pairs(t, func(p impl.Program, x impl.Expr, y impl.Expr, most int) {
		want, _, b := inTurn(t, p, x, y, most)
		if want.Status == impl.Done {
			want.Value = b
		}
		shifted, _ := impl.Shift(y, 0, 1)
		if o := evaluated(t, p, let(x, shifted), most); text(o) != text(want) {
			t.Fatalf("OpLet of %v and %v in %v with %d calls is %v, want %v", x, y, p, most, o, want)
		}
	})
}

func TestP44BoundValuesCanBeUsedTwice(t *testing.T) {
	changed(t, func(p impl.Program, x impl.Expr, most int, o impl.Outcome) {
		if o.Status == impl.Done {
			o.Value = impl.Prim(impl.OpAdd, o.Value, o.Value)
		}
		checkChanged(t, p, let(x, add(v(0), v(0))), most, o)
	})
}

func TestP45ACallIsCounted(t *testing.T) {
	for _, p := range runs() {
		all := evaluatedAll(t, p)
		for most := 1; most <= 40; most++ {
			want := all[most-1]
			want.Calls++
			if o := evaluated(t, p, ex(impl.OpCall, 0), most); text(o) != text(want) {
				t.Fatalf("a call of the function 0 of %v with %d calls is %v, want %v", p, most, o, want)
			}
		}
		if o := evaluated(t, p, ex(impl.OpCall, 0), 0); text(o) != text(spent(0)) {
			t.Fatalf("a call of the function 0 of %v without calls is %v", p, o)
		}
	}
}
