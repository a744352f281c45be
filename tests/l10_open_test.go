package tests

import (
	"testing"

	"loop.example/refcountml/impl"
)

// rewriter is a function that makes another normal form of one.
type rewriter struct {
	name string
	of   func(n impl.Normal) (impl.Normal, bool)
}

// specialize, expand and reusing are the functions of the chapters 10 and 11.
var (
	specialize = rewriter{"Specialize", impl.Specialize}
	expand     = rewriter{"Expand", impl.Expand}
	reusing    = rewriter{"Reuse", impl.Reuse}
)

// rewritten returns what a function makes of a normal form.
func rewritten(t *testing.T, r rewriter, n impl.Normal) impl.Normal {
	t.Helper()
	out, ok := r.of(n)
	if !ok {
		t.Fatalf("%s(%v) fails", r.name, n)
	}
	return out
}

// failsToRewrite tells if a function takes a normal form that it should not.
func failsToRewrite(t *testing.T, r rewriter, n impl.Normal) {
	t.Helper()
	if out, ok := r.of(n); ok || text(out) != text(impl.Normal{}) {
		t.Fatalf("%s(%v) = %v, %v", r.name, n, out, ok)
	}
}

// checkRewriting tries a function with bodies.
func checkRewriting(t *testing.T, r rewriter, rules []rewriting) {
	t.Helper()
	for _, c := range rules {
		n := balancedRule(t, c.params, c.lent, c.b)
		out := rewritten(t, r, n)
		if got := show(out.Routines[3].Body); got != c.want {
			t.Errorf("%s of %s with the parameters %v and %v lent has %s, want %s", r.name, show(c.b), c.params, c.lent, got, c.want)
		}
		if out.Routines[3].Body.Steps = n.Routines[3].Body.Steps; text(out) != text(n) {
			t.Errorf("%s of %s changes more than a body: %v", r.name, show(c.b), out)
		}
	}
}

func TestSpecializeOfTheRules(t *testing.T) {
	checkRewriting(t, specialize, opens())
}

func TestExpandOfTheRules(t *testing.T) {
	checkRewriting(t, expand, expands())
}

// pairForm returns a normal form with a body of a routine with one parameter, a pair of integers or nothing.
func pairForm(b impl.Block) impl.Normal {
	routines := []impl.Routine{{Body: block(0, one)}, {Params: []int{1}, Body: b}}
	return impl.Normal{Decls: []impl.Decl{dataOf([]int{0, 0}, nil)}, Routines: routines}
}

func TestTakingApartFieldsThatAreIntegers(t *testing.T) {
	n := pairForm(block(1, match(1, 0, block(1, drop(0)), block(1, drop(0), one))))
	open := rewritten(t, specialize, n)
	if got := show(open.Routines[1].Body); got != "8:1[0]{16:0[0] > 1}{15:0[0] 0:1[] > 1} > 1" {
		t.Errorf("Specialize has %s", got)
	}
	if back := rewritten(t, expand, open); text(back) != text(n) {
		t.Errorf("Expand of Specialize(%v) = %v", n, back)
	}
}

// expandMeaning returns what Expand should make of a block in some arms, without a limit for steps.
func expandMeaning(c context, b impl.Block, fields map[int][]int) impl.Block {
	out := impl.Block{Result: b.Result}
	for _, s := range b.Steps {
		if s.Op == impl.OpOpen || s.Op == impl.OpReuse {
			for _, v := range fields[s.Args[0]] {
				out.Steps = append(out.Steps, dup(v))
			}
			out.Steps = append(out.Steps, drop(s.Args[0]))
			continue
		}
		other := st(s.Op, s.Num, s.Args...)
		for k, types := range c.fieldsAt(s) {
			inner := make(map[int][]int)
			for v, list := range fields {
				inner[v] = list
			}
			var bound []int
			for i, of := range types {
				if of != 0 {
					bound = append(bound, len(c.types)+i)
				}
			}
			inner[s.Args[0]] = bound
			other.Kids = append(other.Kids, expandMeaning(c.with(types...), s.Kids[k], inner))
		}
		out.Steps = append(out.Steps, other)
		if s.Op < impl.OpDup {
			c = c.with(c.defined(s))
		}
	}
	return out
}

// expandedOf returns what Expand should, without a limit for steps.
func expandedOf(n impl.Normal) impl.Normal {
	return withBodiesOf(n, func(r impl.Routine) impl.Block { return expandMeaning(context{n, r.Params}, r.Body, nil) })
}

func TestTakingApartAgreesWithTheSecondWay(t *testing.T) {
	open, closed := 0, 0
	for _, n := range balancedVariants() {
		if got, want := rewritten(t, specialize, n), openedOf(n); text(got) != text(want) {
			t.Fatalf("Specialize(%v) = %v, want %v", n, got, want)
		} else if text(got) != text(n) {
			open++
		}
		if got, want := rewritten(t, expand, n), expandedOf(n); text(got) != text(want) {
			t.Fatalf("Expand(%v) = %v, want %v", n, got, want)
		} else if text(got) != text(n) {
			closed++
		}
	}
	if open < 300 || closed < 300 {
		t.Errorf("only %d normal forms have something to take apart, and %d to expand", open, closed)
	}
}

// manyInts returns some steps that define integers.
func manyInts(many int) []impl.Step {
	return wideBlock(many).Steps
}

// limitOpens returns a normal form whose Specialize has 6 steps more, with some integers as further steps.
func limitOpens(t *testing.T, more int) impl.Normal {
	long := impl.Block{Steps: append([]impl.Step{drop(0)}, manyInts(more)...), Result: 4}
	arms := match(3, 0, block(3, drop(0), one), long, block(3, drop(0), one))
	return balancedRule(t, []int{3}, nil, block(1, arms))
}

func TestSpecializeAtTheLimit(t *testing.T) {
	for _, more := range []int{1, 587, 588, 589, 590, 594} {
		n := limitOpens(t, more)
		steps := impl.StepsOf(n.Routines[3].Body)
		if steps != more+6 {
			t.Fatalf("the body has %d steps", steps)
		}
		if steps+6 > 600 {
			failsToRewrite(t, specialize, n)
			continue
		}
		if out := rewritten(t, specialize, n); impl.StepsOf(out.Routines[3].Body) != steps+6 {
			t.Errorf("Specialize has %d steps, and there were %d", impl.StepsOf(out.Routines[3].Body), steps)
		}
	}
}

func TestSpecializeAtTheLimitOfEachBody(t *testing.T) {
	n := limitOpens(t, 588)
	whole := append([]impl.Step{}, n.Routines[0].Body.Steps...)
	n = withSteps(n, 0, append(whole, manyInts(600-len(whole))...))
	if out := rewritten(t, specialize, n); impl.StepsOf(out.Routines[0].Body) != 600 || impl.StepsOf(out.Routines[3].Body) != 600 {
		t.Error("Specialize of two bodies at the limit")
	}
	// Steps that are left out make room for others.
	shorter := append([]impl.Step{dup(1), dup(2), dup(3), drop(0), drop(1), drop(2), drop(3)}, manyInts(588)...)
	n = balancedRule(t, []int{3}, nil, block(1, match(3, 0, block(3, drop(0), one), block(4, shorter...), block(3, drop(0), one))))
	if impl.StepsOf(n.Routines[3].Body) != 600 || impl.StepsOf(rewritten(t, specialize, n).Routines[3].Body) != 600 {
		t.Error("Specialize of a body at the limit that has as many steps as before")
	}
}

func TestExpandAtTheLimit(t *testing.T) {
	for _, more := range []int{1, 581, 582, 583, 584, 588} {
		long := impl.Block{Steps: append([]impl.Step{open(0), drop(1), drop(2), drop(3)}, manyInts(more)...), Result: 4}
		arms := match(3, 0, block(3, open(0), drop(1), drop(2), one), long, block(3, open(0), drop(2), one))
		n := balancedRule(t, []int{3}, nil, block(1, arms))
		steps := impl.StepsOf(n.Routines[3].Body)
		if steps != more+12 {
			t.Fatalf("the body has %d steps", steps)
		}
		if steps+6 > 600 {
			failsToRewrite(t, expand, n)
			continue
		}
		if out := rewritten(t, expand, n); impl.StepsOf(out.Routines[3].Body) != steps+6 {
			t.Errorf("Expand has %d steps, and there were %d", impl.StepsOf(out.Routines[3].Body), steps)
		}
	}
}

func TestTakingApartInvalidNormalForms(t *testing.T) {
	var bad []impl.Normal
	bad = append(bad, notNormals()...)
	for i, x := range variants() {
		if i%3 == 0 && !impl.Balanced(x.n) {
			bad = append(bad, x.n)
		}
	}
	for _, c := range countings() {
		bad = append(bad, ruleForm(c.params, c.lent, c.b))
	}
	// Each routine must be balanced, and not only the one in which there is something to take apart.
	whole := balancedRule(t, []int{1}, nil, listArms(dup(2), drop(0)))
	for f := 1; f <= 3; f++ {
		b := whole.Routines[f].Body
		bad = append(bad, withSteps(whole, f, append([]impl.Step{dup(0)}, b.Steps...)), withSteps(whole, f, append([]impl.Step{open(0)}, b.Steps...)))
	}
	for _, n := range bad {
		failsToRewrite(t, specialize, n)
		failsToRewrite(t, expand, n)
	}
}

func TestP93WhatIsTakenApartStaysBalanced(t *testing.T) {
	for _, n := range balancedVariants() {
		out := rewritten(t, specialize, n)
		if !impl.Balanced(out) || text(plainOf(t, out)) != text(plainOf(t, n)) {
			t.Fatalf("Specialize(%v) = %v", n, out)
		}
	}
}

func TestP94WhatIsTakenApartIsNotTakenApartAgain(t *testing.T) {
	for _, n := range balancedVariants() {
		out := rewritten(t, specialize, n)
		if again := rewritten(t, specialize, out); text(again) != text(out) {
			t.Fatalf("Specialize(%v) = %v, and Specialize of it is %v", n, out, again)
		}
	}
}

func TestP95TakingApartIsDuppingAndDropping(t *testing.T) {
	tried := 0
	for _, n := range balancedVariants() {
		if counts := impl.CountsOf(n); counts[2]+counts[3] > 0 {
			continue
		}
		open := rewritten(t, specialize, n)
		if impl.CountsOf(open)[2] > 0 {
			tried++
		}
		if back := cancelOf(t, rewritten(t, expand, open)); text(back) != text(cancelOf(t, n)) {
			t.Fatalf("Cancel of Expand of Specialize(%v) = %v", n, back)
		}
	}
	if tried < 100 {
		t.Errorf("only %d normal forms are taken apart", tried)
	}
}

func TestP96TakingApartSavesDups(t *testing.T) {
	alike, fewer := 0, 0
	for _, n := range balancedVariants() {
		out := rewritten(t, specialize, n)
		before, now := impl.CountsOf(n), impl.CountsOf(out)
		if now[0] > before[0] || now[2] < before[2] || now[2] == before[2] && text(out) != text(n) {
			t.Fatalf("Specialize(%v) = %v", n, out)
		}
		if now[2] == before[2] {
			alike++
		}
		if now[0] < before[0] {
			fewer++
		}
	}
	if alike < 300 || fewer < 150 {
		t.Errorf("%d normal forms stay the same, and %d have fewer dups", alike, fewer)
	}
}

func TestP97WhatIsNotTakenApartIsBalancedToo(t *testing.T) {
	for _, n := range balancedVariants() {
		out := rewritten(t, expand, n)
		if counts := impl.CountsOf(out); !impl.Balanced(out) || counts[2] != 0 || counts[3] != 0 {
			t.Fatalf("Expand(%v) = %v", n, out)
		}
	}
}

func TestP98ExpandingChangesCountingStepsAlone(t *testing.T) {
	for _, n := range balancedVariants() {
		out := rewritten(t, expand, n)
		if text(plainOf(t, out)) != text(plainOf(t, n)) {
			t.Fatalf("Expand(%v) = %v", n, out)
		}
		if again := rewritten(t, expand, out); text(again) != text(out) {
			t.Fatalf("Expand(%v) = %v, and Expand of it is %v", n, out, again)
		}
	}
}

func TestWhatIsTakenApartCountsExactly(t *testing.T) {
	some := ruledForms()
	for i, n := range balancedVariants() {
		if i%3 == 0 {
			some = append(some, n)
		}
	}
	for _, n := range some {
		countsExactly(t, n)
		countsExactly(t, rewritten(t, specialize, n))
		countsExactly(t, rewritten(t, expand, n))
	}
}

func TestTakingApartTheExample(t *testing.T) {
	counted := countedOf(t, normalOf(t, sumProgram()))
	open := rewritten(t, specialize, counted)
	if got := show(open.Routines[1].Body); got != "8:1[0]{15:0[0] 0:0[] > 1}{16:0[0] 9:1[2] 1:0[1 3] > 4} > 1" {
		t.Errorf("Specialize has %s", got)
	}
	if back := rewritten(t, expand, open); text(back) != text(counted) {
		t.Errorf("Expand = %v", back)
	}
}
