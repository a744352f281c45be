package tests

import (
	"testing"

	"loop.example/refcountml/impl"
)

// mentions counts the variables with a number, however many nodes there are.
func mentions(e impl.Expr, n int) int {
	sum := 0
	if e.Op == impl.OpVar && e.Num == n {
		sum = 1
	}
	for _, kid := range e.Kids {
		sum += mentions(kid, n)
	}
	return sum
}

// mayShift reports whether all variables of an expression have numbers that Shift takes.
func mayShift(e impl.Expr) bool {
	if e.Op == impl.OpVar && (e.Num < 0 || e.Num > 99) {
		return false
	}
	for _, kid := range e.Kids {
		if !mayShift(kid) {
			return false
		}
	}
	return nodesOf(e) <= impl.MaxNodes
}

// shiftedBy returns what Shift should.
func shiftedBy(e impl.Expr, at int, by int) impl.Expr {
	out := ex(e.Op, e.Num)
	if e.Op == impl.OpVar && e.Num >= at {
		out.Num += by
	}
	for _, kid := range e.Kids {
		out.Kids = append(out.Kids, shiftedBy(kid, at, by))
	}
	return out
}

func TestP24FreeVariablesAreMentioned(t *testing.T) {
	for _, e := range rawExprs() {
		for n := -1; n <= 10; n++ {
			free := impl.FreeOf(e, n)
			if !ascends(free) {
				t.Fatalf("FreeOf(%v, %d) = %v", e, n, free)
			}
			for i := -2; i <= 11; i++ {
				want := i >= 0 && i < n && impl.MentionsOf(e, i) > 0
				if has(free, i) != want {
					t.Fatalf("FreeOf(%v, %d) = %v", e, n, free)
				}
			}
		}
	}
}

func TestP25FewerVariablesAreTheFirstOnes(t *testing.T) {
	for _, e := range rawExprs() {
		for n := 1; n <= 101; n++ {
			var want []int
			for _, i := range impl.FreeOf(e, n) {
				if i != n-1 {
					want = append(want, i)
				}
			}
			if free := impl.FreeOf(e, n-1); !same(free, want...) {
				t.Fatalf("FreeOf(%v, %d) = %v, want %v", e, n-1, free, want)
			}
		}
	}
}

func TestFreeVariables(t *testing.T) {
	e := add(v(7), add(v(0), ex(impl.OpLet, 0, v(3), add(v(7), add(v(100), v(-1))))))
	if !same(impl.FreeOf(e, 8), 0, 3, 7) || !same(impl.FreeOf(e, 7), 0, 3) || !same(impl.FreeOf(e, 1), 0) {
		t.Errorf("FreeOf(%v) = %v, %v, %v", e, impl.FreeOf(e, 8), impl.FreeOf(e, 7), impl.FreeOf(e, 1))
	}
	if !same(impl.FreeOf(e, 101), 0, 3, 7, 100) || !same(impl.FreeOf(e, 1<<62), 0, 3, 7, 100) {
		t.Errorf("FreeOf(%v) = %v, %v", e, impl.FreeOf(e, 101), impl.FreeOf(e, 1<<62))
	}
	for _, n := range []int{0, -1, -1 << 63} {
		if free := impl.FreeOf(e, n); len(free) != 0 {
			t.Errorf("FreeOf(%v, %d) = %v", e, n, free)
		}
	}
	if !same(impl.FreeOf(wide(30), 5), 0) || len(impl.FreeOf(wide(31), 5)) != 0 || len(impl.FreeOf(doubled(60), 5)) != 0 || len(impl.FreeOf(endless(), 5)) != 0 {
		t.Error("FreeOf at the limit of nodes")
	}
}

func TestMentions(t *testing.T) {
	e := add(v(7), ex(impl.OpVar, 7, v(7), num(7), ex(impl.OpCon, 7, v(-4), v(500))))
	for _, n := range []int{7, -4, 500, 0, 8} {
		if impl.MentionsOf(e, n) != mentions(e, n) {
			t.Errorf("MentionsOf(%v, %d) = %d", e, n, impl.MentionsOf(e, n))
		}
	}
	if impl.MentionsOf(wide(30), 0) != 29 || impl.MentionsOf(wide(31), 0) != -1 || impl.MentionsOf(deep(31), 0) != -1 || impl.MentionsOf(doubled(60), 0) != -1 || impl.MentionsOf(endless(), 0) != -1 {
		t.Error("MentionsOf at the limit of nodes")
	}
}

func TestP26MentionsAddUp(t *testing.T) {
	for _, e := range rawExprs() {
		for n := -1; n <= 9; n++ {
			sum := 0
			if e.Op == impl.OpVar && e.Num == n {
				sum = 1
			}
			for _, kid := range e.Kids {
				sum += impl.MentionsOf(kid, n)
			}
			if nodesOf(e) > impl.MaxNodes {
				sum = -1
			}
			if impl.MentionsOf(e, n) != sum {
				t.Fatalf("MentionsOf(%v, %d) = %d, want %d", e, n, impl.MentionsOf(e, n), sum)
			}
		}
	}
}

func TestShiftOfAllExpressions(t *testing.T) {
	for _, e := range rawExprs() {
		for at := 0; at <= 9; at++ {
			for _, by := range []int{0, 1, 2, 99} {
				out, ok := impl.Shift(e, at, by)
				var want impl.Expr
				if mayShift(e) {
					want = shiftedBy(e, at, by)
				}
				if ok != mayShift(e) || text(out) != text(want) {
					t.Fatalf("Shift(%v, %d, %d) = %v, %v", e, at, by, out, ok)
				}
			}
		}
	}
}

func TestShiftAtLimits(t *testing.T) {
	e := add(v(0), add(v(98), v(99)))
	good := []struct{ at, by, first, middle, last int }{
		{0, 99, 99, 197, 198}, {99, 99, 0, 98, 198}, {99, 0, 0, 98, 99}, {0, 0, 0, 98, 99}, {98, 1, 0, 99, 100}, {1, 2, 0, 100, 101},
	}
	for _, g := range good {
		out, ok := impl.Shift(e, g.at, g.by)
		if want := add(v(g.first), add(v(g.middle), v(g.last))); !ok || text(out) != text(want) {
			t.Errorf("Shift(%v, %d, %d) = %v, %v", e, g.at, g.by, out, ok)
		}
	}
	for _, n := range []int{-1, 100, -1 << 63, 1<<63 - 1} {
		failsToShift(t, e, n, 1)
		failsToShift(t, e, 1, n)
		failsToShift(t, add(num(1), v(n)), 0, 0)
		failsToShift(t, ex(impl.OpVar, 1, v(n)), 50, 1)
	}
	for _, large := range []impl.Expr{deep(31), wide(31), wide(100000), doubled(60), endless()} {
		failsToShift(t, large, 0, 1)
	}
	for _, other := range []impl.Expr{num(1000), ex(impl.OpCon, -7), ex(impl.OpCall, 100, num(-1))} {
		if out, ok := impl.Shift(other, 0, 99); !ok || text(out) != text(other) {
			t.Errorf("Shift(%v, 0, 99) = %v, %v", other, out, ok)
		}
	}
}

// failsToShift tells if Shift does not fail, or gives more than its zero value.
func failsToShift(t *testing.T, e impl.Expr, at int, by int) {
	t.Helper()
	if out, ok := impl.Shift(e, at, by); ok || text(out) != text(impl.Expr{}) {
		t.Errorf("Shift from %d by %d succeeds with %d kids", at, by, len(out.Kids))
	}
}

// sameForm reports whether two expressions differ in numbers of variables alone.
func sameForm(a impl.Expr, b impl.Expr) bool {
	if a.Op != b.Op || len(a.Kids) != len(b.Kids) || a.Op != impl.OpVar && a.Num != b.Num {
		return false
	}
	for i := range a.Kids {
		if !sameForm(a.Kids[i], b.Kids[i]) {
			return false
		}
	}
	return true
}

func TestP27ShiftedExpressionsHaveTheSameForm(t *testing.T) {
	for _, e := range rawExprs() {
		for at := 0; at <= 12; at += 3 {
			out, ok := impl.Shift(e, at, 7)
			if ok && (impl.NodesOf(out) != impl.NodesOf(e) || !sameForm(out, e)) {
				t.Fatalf("Shift(%v, %d, 7) = %v", e, at, out)
			}
			if still, ok := impl.Shift(e, at, 0); ok && text(still) != text(e) {
				t.Fatalf("Shift(%v, %d, 0) = %v", e, at, still)
			}
		}
	}
}

func TestP28ShiftsAddUp(t *testing.T) {
	tried := 0
	for _, e := range rawExprs() {
		for at := 0; at <= 6; at += 2 {
			for _, pair := range [][]int{{1, 1}, {0, 5}, {5, 0}, {2, 3}, {40, 50}, {90, 9}, {91, 9}, {60, 60}} {
				first, ok := impl.Shift(e, at, pair[0])
				second, fine := impl.Shift(first, at, pair[1])
				once, good := impl.Shift(e, at, pair[0]+pair[1])
				if !ok || !fine || !good {
					continue
				}
				tried++
				if text(second) != text(once) {
					t.Fatalf("Shift(%v, %d) by %v = %v, want %v", e, at, pair, second, once)
				}
			}
		}
	}
	if tried < 1000 {
		t.Errorf("only %d shifts succeed", tried)
	}
}

func TestP29ShiftsMakeRoom(t *testing.T) {
	for _, e := range rawExprs() {
		for at := 0; at <= 8; at++ {
			for by := 0; by <= 5; by++ {
				out, ok := impl.Shift(e, at, by)
				if !ok {
					continue
				}
				for n := 0; n <= 110; n++ {
					want := impl.MentionsOf(e, n-by)
					if n < at+by {
						want = 0
					}
					if n < at {
						want = impl.MentionsOf(e, n)
					}
					if impl.MentionsOf(out, n) != want {
						t.Fatalf("MentionsOf Shift(%v, %d, %d) of %d = %d", e, at, by, n, impl.MentionsOf(out, n))
					}
				}
			}
		}
	}
}

func TestP31ParametersAreFreeOrUnused(t *testing.T) {
	used, unused := 0, 0
	for _, p := range programs() {
		for f, one := range p.Funcs {
			list := impl.UnusedParams(p, f)
			free := impl.FreeOf(one.Body, len(one.Params))
			if !ascends(list) || len(list)+len(free) != len(one.Params) {
				t.Fatalf("UnusedParams(%v, %d) = %v, and FreeOf is %v", p, f, list, free)
			}
			for n := range one.Params {
				if has(list, n) == has(free, n) || has(list, n) != (mentions(one.Body, n) == 0) {
					t.Fatalf("UnusedParams(%v, %d) = %v, and FreeOf is %v", p, f, list, free)
				}
			}
			used += len(free)
			unused += len(list)
		}
	}
	if used < 20 || unused < 20 {
		t.Errorf("%d parameters are used, and %d are not", used, unused)
	}
}

func TestUnusedParams(t *testing.T) {
	p := impl.Program{Funcs: []impl.Func{
		{Body: num(1)},
		{Params: []int{0, 0, 0}, Body: num(2)},
		{Params: []int{0, 0, 0}, Body: let(v(1), v(3))},
		{Params: []int{0, 0, 0}, Body: add(v(2), add(v(0), v(2)))},
	}}
	for f, want := range [][]int{nil, {0, 1, 2}, {0, 2}, {1}} {
		if list := impl.UnusedParams(p, f); !same(list, want...) {
			t.Errorf("UnusedParams %d = %v, want %v", f, list, want)
		}
	}
	for _, f := range []int{-1, 4, 1 << 62, -1 << 63} {
		if list := impl.UnusedParams(p, f); len(list) != 0 {
			t.Errorf("UnusedParams %d = %v", f, list)
		}
	}
	if list := impl.UnusedParams(withBody(p, 1, v(3)), 2); len(list) != 0 {
		t.Errorf("UnusedParams of a program that is not valid = %v", list)
	}
}
