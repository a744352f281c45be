package tests

import (
	"sync"
	"testing"

	"loop.example/refcountml/impl"
)

func TestReuseOfTheRules(t *testing.T) {
	checkRewriting(t, reusing, reuses())
}

func TestReuseTakesNoFormsWithReuse(t *testing.T) {
	kept := tailArm(3, reuse(0), into(con(1, 1, 2), 1))
	failsToRewrite(t, reusing, balancedRule(t, []int{1}, nil, kept))
	failsToRewrite(t, reusing, balancedRule(t, []int{1}, nil, tailArm(4, dup(0), open(0), reuse(0), drop(2), into(con(1, 1, 2), 1), con(1, 1, 3))))
	// It does not matter which routine it is.
	n := balancedRule(t, []int{1}, nil, tailArm(3, open(0), con(1, 1, 2)))
	twice := balancedRule(t, []int{1, 1}, nil, block(0, drop(1)))
	for f := 2; f <= 3; f++ {
		other := withBlock(twice, f, block(2, match(1, 0, block(1), block(4, reuse(0), drop(1), into(con(1, 2, 3), 1)))))
		other.Routines[f].Body.Steps[0].Kids[0].Steps = []impl.Step{drop(0)}
		if !impl.Balanced(other) {
			t.Fatalf("%v is not balanced", other)
		}
		failsToRewrite(t, reusing, other)
	}
	// An Into that is not 0 already needs an OpReuse step, so there is none where it could be changed.
	bad := cloneBlock(n.Routines[3].Body)
	bad.Steps[0].Kids[1].Steps[1].Into = 1
	failsToRewrite(t, reusing, withBlock(n, 3, bad))
	for _, other := range notNormals() {
		failsToRewrite(t, reusing, other)
	}
	for i, x := range variants() {
		if i%3 == 0 && !impl.Balanced(x.n) {
			failsToRewrite(t, reusing, x.n)
		}
	}
}

func TestReuseAtTheLimit(t *testing.T) {
	long := append([]impl.Step{open(0), con(1, 1, 2)}, manyInts(597)...)
	n := balancedRule(t, []int{1}, nil, tailArm(3, long...))
	out := rewritten(t, reusing, n)
	if steps := impl.StepsOf(out.Routines[3].Body); steps != 600 || !same(impl.CountsOf(out)[2:], 0, 1) {
		t.Errorf("Reuse has %d steps, and the counts %v", steps, impl.CountsOf(out))
	}
}

// reusables returns balanced normal forms without OpReuse steps, some of them taken apart, made only once.
var reusables = sync.OnceValue(makeReusables)

// makeReusables makes them.
func makeReusables() []impl.Normal {
	var out []impl.Normal
	for _, n := range balancedVariants() {
		if impl.CountsOf(n)[3] == 0 {
			out = append(out, n)
			if open, ok := impl.Specialize(n); ok && text(open) != text(n) {
				out = append(out, open)
			}
		}
	}
	return out
}

func TestReuseAgreesWithTheSecondWay(t *testing.T) {
	changed := 0
	for _, n := range reusables() {
		got, want := rewritten(t, reusing, n), keptOf(n)
		if text(got) != text(want) {
			t.Fatalf("Reuse(%v) = %v, want %v", n, got, want)
		}
		if text(got) != text(n) {
			changed++
		}
	}
	if changed < 200 {
		t.Errorf("only %d normal forms have something to reuse", changed)
	}
}

func TestWhatIsReusedCountsExactly(t *testing.T) {
	for _, c := range reuses() {
		countsExactly(t, rewritten(t, reusing, ruled(c.params, c.lent, c.b)))
	}
	for i, n := range reusables() {
		if i%3 == 0 {
			countsExactly(t, rewritten(t, reusing, n))
		}
	}
}

// keeping is a body, and the cells that are kept after its first steps; none for steps that cannot be.
type keeping struct {
	params []int
	b      impl.Block
	k      int
	kept   []int
}

func TestKeptAfter(t *testing.T) {
	both := []int{4, 0}
	two := match(4, 0, block(2, reuse(0)), block(3, reuse(0)))
	b := block(4, two, one, into(con(1, 3, 2), 1))
	broken := block(3, two, into(con(0), 1))
	later := block(7, con(0), con(6, 1, 2), match(4, 3, block(4, reuse(3)), block(5, reuse(3))), dup(0), drop(0), into(con(1, 1, 4), 4), match(4, 0, block(6, drop(5), reuse(0)), block(7, drop(5), reuse(0))), into(con(1, 1, 6), 1))
	again := block(4, two, dup(2), into(con(2, 2, 2), 1), st(impl.OpInt, 4))
	for _, c := range []keeping{
		{both, b, 0, []int{-1, -1}}, {both, b, 1, []int{2, -1, -1}}, {both, b, 2, []int{2, -1, -1, -1}}, {both, b, 3, []int{-1, -1, -1, -1, -1}},
		{both, b, 4, nil}, {both, b, -1, nil}, {both, b, 1 << 62, nil}, {both, b, -1 << 63, nil},
		{both, broken, 0, []int{-1, -1}}, {both, broken, 1, []int{2, -1, -1}}, {both, broken, 2, nil},
		{both, later, 2, []int{-1, -1, -1, -1}}, {both, later, 3, []int{-1, -1, -1, 2, -1}}, {both, later, 5, []int{-1, -1, -1, 2, -1}}, {both, later, 6, []int{-1, -1, -1, -1, -1, -1}}, {both, later, 7, []int{2, -1, -1, -1, -1, -1, -1}}, {both, later, 8, []int{-1, -1, -1, -1, -1, -1, -1, -1}},
		{both, again, 2, []int{2, -1, -1}}, {both, again, 3, []int{-1, -1, -1, -1}}, {both, again, 4, []int{-1, -1, -1, -1, -1}}, {both, again, 5, nil},
		{[]int{1}, block(0, dup(0), drop(0), drop(0), drop(0)), 3, []int{-1}}, {[]int{1}, block(0, dup(0), drop(0), drop(0), drop(0)), 4, nil},
		{nil, block(0, one), 0, nil}, {nil, block(0, one), 1, []int{-1}}, {nil, block(0, one), 2, nil},
	} {
		n := ruleForm(c.params, nil, c.b)
		if !impl.ValidNormal(n) {
			t.Fatalf("the body %s is not valid", show(c.b))
		}
		if got := impl.KeptAfter(n, 3, c.k); !same(got, c.kept...) {
			t.Errorf("KeptAfter %d steps of %s = %v, want %v", c.k, show(c.b), got, c.kept)
		}
	}
}

// keeperForm returns a normal form with a body of a routine that has a value with cells of none, one or three fields, by the declarations.
func keeperForm(b impl.Block, cons ...[]int) impl.Normal {
	routines := []impl.Routine{{Body: block(0, one)}, {Params: []int{1}, Result: 1, Body: b}}
	return impl.Normal{Decls: []impl.Decl{dataOf(cons...)}, Routines: routines}
}

func TestKeptCellsOfAllSizes(t *testing.T) {
	for fields := 0; fields <= impl.MaxFields; fields++ {
		types := make([]int, fields)
		numbers := []int{1, 1, 1}[:fields]
		keep := block(1+fields, st(impl.OpInt, 0))
		keep.Steps = append([]impl.Step{reuse(0)}, keep.Steps...)
		b := block(2, match(1, 0, keep, keep), into(con(0, numbers...), 1))
		n := keeperForm(b, types, types)
		if !impl.Balanced(n) || !same(impl.KeptAfter(n, 1, 0), -1) || !same(impl.KeptAfter(n, 1, 1), fields, -1) || !same(impl.KeptAfter(n, 1, 2), -1, -1, -1) {
			t.Errorf("KeptAfter a cell with %d fields = %v", fields, impl.KeptAfter(n, 1, 1))
		}
	}
}

func TestKeptAfterInvalidArguments(t *testing.T) {
	n := rewritten(t, reusing, openedOf(counting10()))
	for _, f := range append(oddNumbers(), 2, 3) {
		for _, k := range oddNumbers() {
			got, owned := impl.KeptAfter(n, f, k), impl.OwnedAfter(n, f, k)
			if there := f == 0 || f == 1; !there && len(got) != 0 || len(got) != len(owned) {
				t.Errorf("KeptAfter %d steps of the routine %d = %v", k, f, got)
			}
		}
	}
	for _, bad := range notNormals() {
		for f := -1; f <= 4; f++ {
			if len(impl.KeptAfter(bad, f, 0)) != 0 || len(impl.KeptAfter(bad, f, 1)) != 0 {
				t.Fatalf("KeptAfter of a normal form that is not valid: %s", text(bad)[:20])
			}
		}
	}
}

// keptMeaning returns what KeptAfter should.
func keptMeaning(n impl.Normal, f int, k int) []int {
	s := stateAt(n, n.Routines[f])
	if !s.after(n.Routines[f].Body.Steps[:k]) {
		return nil
	}
	var out []int
	for v := range s.types {
		fields, ok := s.kept[v]
		if !ok {
			fields = -1
		}
		out = append(out, fields)
	}
	return out
}

// keepers returns normal forms that keep cells across blocks, most of them balanced.
func keepers(t *testing.T) []variant {
	var out []variant
	m := maker{seed: 40}
	two := match(4, 0, block(2, reuse(0)), block(3, reuse(0)))
	for _, b := range []impl.Block{
		block(4, two, one, into(con(1, 3, 2), 1)),
		block(3, two, dup(2), into(con(2, 2, 2), 1), one),
		block(3, two, if0(1, block(3, dup(2), into(con(2, 2, 2), 1)), block(3, dup(2), into(con(2, 2, 2), 1)))),
		block(7, con(0), con(6, 1, 2), match(4, 3, block(4, reuse(3)), block(5, reuse(3))), into(con(1, 1, 4), 4), match(4, 0, block(6, drop(5), reuse(0)), block(7, drop(5), reuse(0))), into(con(1, 1, 6), 1)),
	} {
		n := balancedRule(t, []int{4, 0}, nil, b)
		out = append(out, variant{n, 3})
		for try := 0; try < 60; try++ {
			body := cloneBlock(b)
			blocks := blocksIn(&body)
			m.change(blocks[m.pick(len(blocks))])
			if other := withBlock(n, 3, body); impl.ValidNormal(other) {
				out = append(out, variant{other, 3})
			}
		}
	}
	return out
}

func TestKeptAfterAgreesWithTheSecondCheck(t *testing.T) {
	kept := 0
	for _, x := range append(keepers(t), variants()...) {
		for k := 0; k <= len(x.n.Routines[x.f].Body.Steps); k++ {
			want := keptMeaning(x.n, x.f, k)
			if got := impl.KeptAfter(x.n, x.f, k); !same(got, want...) {
				t.Fatalf("KeptAfter(%v, %d, %d) = %v, want %v", x.n, x.f, k, got, want)
			}
			for _, fields := range want {
				if fields >= 0 {
					kept++
				}
			}
		}
	}
	if kept < 100 {
		t.Errorf("only %d times a cell is kept", kept)
	}
}

func TestP99ReuseStaysBalanced(t *testing.T) {
	for _, n := range reusables() {
		out := rewritten(t, reusing, n)
		if !impl.Balanced(out) || text(plainOf(t, out)) != text(plainOf(t, n)) {
			t.Fatalf("Reuse(%v) = %v", n, out)
		}
	}
}

func TestP100ReuseIsTakingApart(t *testing.T) {
	for _, n := range reusables() {
		if back, want := rewritten(t, expand, rewritten(t, reusing, n)), rewritten(t, expand, n); text(back) != text(want) {
			t.Fatalf("Expand of Reuse(%v) = %v, want %v", n, back, want)
		}
	}
}

func TestP101KeptCellsComeFromOpenedOnes(t *testing.T) {
	for _, n := range reusables() {
		before, now := impl.CountsOf(n), impl.CountsOf(rewritten(t, reusing, n))
		if now[0] != before[0] || now[1] != before[1] || now[2]+now[3] != before[2] {
			t.Fatalf("Reuse(%v) has the counts %v, and there were %v", n, now, before)
		}
	}
}

func TestP102ReuseIsDoneOnce(t *testing.T) {
	fails, stays := 0, 0
	for _, n := range reusables() {
		out := rewritten(t, reusing, n)
		if impl.CountsOf(out)[3] > 0 {
			failsToRewrite(t, reusing, out)
			fails++
			continue
		}
		if again := rewritten(t, reusing, out); text(out) != text(n) || text(again) != text(n) {
			t.Fatalf("Reuse(%v) = %v", n, out)
		}
		stays++
	}
	if fails < 200 || stays < 200 {
		t.Errorf("%d normal forms have something to reuse, and %d not", fails, stays)
	}
}

func TestP103CellsAreKeptForVariablesInScope(t *testing.T) {
	for _, x := range append(keepers(t), variants()...) {
		for k := 0; k <= len(x.n.Routines[x.f].Body.Steps); k++ {
			kept := impl.KeptAfter(x.n, x.f, k)
			if len(kept) != len(impl.OwnedAfter(x.n, x.f, k)) {
				t.Fatalf("KeptAfter(%v, %d, %d) = %v", x.n, x.f, k, kept)
			}
			for _, fields := range kept {
				if fields < -1 || fields > impl.MaxFields || k == 0 && fields != -1 {
					t.Fatalf("KeptAfter(%v, %d, %d) = %v", x.n, x.f, k, kept)
				}
			}
		}
	}
}

// keptForms returns balanced normal forms, some of which keep cells across blocks.
func keptForms(t *testing.T) []impl.Normal {
	out := balancedForms()
	for _, x := range keepers(t) {
		if impl.Balanced(x.n) {
			out = append(out, x.n)
		}
	}
	return out
}

func TestP104NoCellIsKeptAtTheEnd(t *testing.T) {
	for _, n := range keptForms(t) {
		for f, r := range n.Routines {
			for _, fields := range impl.KeptAfter(n, f, len(r.Body.Steps)) {
				if fields != -1 {
					t.Fatalf("KeptAfter(%v, %d, %d) has %d", n, f, len(r.Body.Steps), fields)
				}
			}
		}
	}
}

func TestP105CellsAreReusedThatAreKept(t *testing.T) {
	seen := 0
	for _, n := range keptForms(t) {
		for f, r := range n.Routines {
			for k, s := range r.Body.Steps {
				if s.Into == 0 {
					continue
				}
				seen++
				if kept := impl.KeptAfter(n, f, k); kept[s.Into-1] != len(s.Args) {
					t.Fatalf("KeptAfter(%v, %d, %d) = %v", n, f, k, kept)
				}
			}
		}
	}
	if seen < 20 {
		t.Errorf("only %d steps of bodies reuse a cell", seen)
	}
}
