package tests

import (
	"strings"
	"testing"

	"loop.example/refcountml/impl"
)

func TestFormatExprOfTheRules(t *testing.T) {
	one, two := num(1), v(2)
	for _, c := range []struct {
		e    impl.Expr
		want string
	}{
		{num(0), "0"}, {num(7), "7"}, {num(10), "10"}, {num(100), "100"}, {num(907), "907"}, {num(999), "999"},
		{num(-1), "-1"}, {num(-10), "-10"}, {num(-90), "-90"}, {num(-305), "-305"}, {num(-999), "-999"},
		{v(0), "v0"}, {v(9), "v9"}, {v(10), "v10"}, {v(99), "v99"},
		{add(one, two), "(add 1 v2)"}, {ex(impl.OpSub, 0, one, two), "(sub 1 v2)"}, {ex(impl.OpMul, 0, one, two), "(mul 1 v2)"},
		{ex(impl.OpLess, 0, one, two), "(less 1 v2)"}, {ex(impl.OpPrint, 0, one), "(print 1)"},
		{ex(impl.OpCon, 0), "(con0)"}, {ex(impl.OpCon, 99, one, two), "(con99 1 v2)"},
		{ex(impl.OpIf, 0, one, two, num(-3)), "(if 1 v2 -3)"}, {ex(impl.OpMatch, 4, two, one, two), "(match4 v2 1 v2)"},
		{ex(impl.OpCall, 3), "(call3)"}, {ex(impl.OpCall, 10, two), "(call10 v2)"}, {ex(impl.OpClose, 0), "(close0)"}, {ex(impl.OpClose, 12, one), "(close12 1)"},
		{ex(impl.OpApply, 0, two, one), "(apply v2 1)"}, {let(one, two), "(let 1 v2)"}, {list(5, -7), "(con1 5 (con1 -7 (con0)))"},
		// How many kids there should be does not matter, nor does any type.
		{ex(impl.OpAdd, 0), "(add)"}, {ex(impl.OpPrint, 0, one, two, one, two), "(print 1 v2 1 v2)"}, {ex(impl.OpLet, 0), "(let)"}, {ex(impl.OpIf, 0, list()), "(if (con0))"},
		{ex(impl.OpMatch, 0), "(match0)"}, {ex(impl.OpApply, 0, ex(impl.OpApply, 0)), "(apply (apply))"},
		{impl.Expr{Op: impl.OpAdd, Kids: []impl.Expr{}}, "(add)"}, {impl.Expr{Kids: []impl.Expr{}}, "0"},
	} {
		if got := impl.FormatExpr(c.e); got != c.want {
			t.Errorf("FormatExpr(%v) = %q, want %q", c.e, got, c.want)
		}
	}
}

func TestFormatExprOfTheExample(t *testing.T) {
	p := sumProgram()
	if a, b := impl.FormatExpr(p.Funcs[0].Body), impl.FormatExpr(p.Funcs[1].Body); a != "(call1 (con1 5 (con1 7 (con0))))" || b != "(match1 v0 0 (add v1 (call1 v2)))" {
		t.Errorf("FormatExpr = %q and %q", a, b)
	}
}

// hasNoText tells if an expression has a text, also where it is a kid.
func hasNoText(t *testing.T, what string, e impl.Expr) {
	t.Helper()
	for _, whole := range []impl.Expr{e, ex(impl.OpPrint, 0, e), let(num(1), add(v(0), e)), ex(impl.OpCon, 3, e, num(1))} {
		if s := impl.FormatExpr(whole); s != "" {
			t.Errorf("FormatExpr of %s = %.200q", what, s)
		}
	}
}

func TestFormatExprOfInvalidExpressions(t *testing.T) {
	for _, n := range []int{-1 << 63, -1000, 1000, 1<<63 - 1} {
		hasNoText(t, "a constant that is too large", num(n))
	}
	for op := impl.OpInt; op <= impl.OpLet; op++ {
		for _, n := range []int{-1 << 63, -100, -1, 1, 99, 100, 1<<63 - 1} {
			if numbers := op == impl.OpVar || wordNumbered(op); op != impl.OpInt && (!numbers || n < 0 || n > 99) {
				hasNoText(t, "a number that is not there", ex(op, n))
			} else if n > 0 && n < 100 && impl.FormatExpr(ex(op, n)) == "" {
				t.Errorf("FormatExpr of the operation %d with the number %d is empty", op, n)
			}
		}
	}
	for _, op := range []int{-1 << 63, -1, impl.OpDup, impl.OpDrop, impl.OpOpen, impl.OpReuse, impl.OpMove, impl.OpTail, 100, 1<<63 - 1} {
		hasNoText(t, "another operation", ex(op, 0))
		hasNoText(t, "another operation", ex(op, 0, num(1)))
	}
	hasNoText(t, "a constant with kids", ex(impl.OpInt, 1, num(1)))
	hasNoText(t, "a variable with kids", ex(impl.OpVar, 1, num(1)))
}

func TestFormatExprAtTheLimit(t *testing.T) {
	if s := impl.FormatExpr(deep(30)); s != strings.Repeat("(print ", 29)+"1"+strings.Repeat(")", 29) {
		t.Errorf("FormatExpr of 30 nodes = %q", s)
	}
	if s := impl.FormatExpr(wide(30)); s != "(con0"+strings.Repeat(" v0", 29)+")" {
		t.Errorf("FormatExpr of 30 nodes = %q", s)
	}
	for _, e := range []impl.Expr{deep(31), wide(31), deep(100000), wide(100000), doubled(5), doubled(62), endless()} {
		if s := impl.FormatExpr(e); s != "" {
			t.Errorf("FormatExpr of more than 30 nodes = %.200q", s)
		}
	}
}

func TestFormatExprAgreesWithTheSecondWay(t *testing.T) {
	shownOnes, none := 0, 0
	for _, e := range rawExprs() {
		want := ""
		if mayShow(e) {
			want = shown(e)
			shownOnes++
		} else {
			none++
		}
		if s := impl.FormatExpr(e); s != want {
			t.Fatalf("FormatExpr(%v) = %q, want %q", e, s, want)
		}
	}
	if shownOnes < 500 || none < 100 {
		t.Errorf("%d expressions have a text, and %d have none", shownOnes, none)
	}
}

func TestP222TextsAreMadeOfTexts(t *testing.T) {
	twice, tooLarge := 0, 0
	for _, e := range rawExprs() {
		s, both := impl.FormatExpr(e), impl.FormatExpr(add(e, e))
		switch {
		case nodesOf(e) > 14:
			tooLarge++
			if both != "" {
				t.Fatalf("FormatExpr of the sum of %v = %q", e, both)
			}
		case s == "":
			if both != "" {
				t.Fatalf("FormatExpr of the sum of %v, which has no text, = %q", e, both)
			}
		default:
			twice++
			if both != "(add "+s+" "+s+")" || strings.Count(both, s) < 2 {
				t.Fatalf("FormatExpr of the sum of %v = %q", e, both)
			}
		}
	}
	if twice < 300 || tooLarge < 100 {
		t.Errorf("%d sums have texts, and %d are too large", twice, tooLarge)
	}
}
