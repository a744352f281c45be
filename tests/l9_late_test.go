package tests

import (
	"sync"
	"testing"

	"loop.example/refcountml/impl"
)

func TestCountLateOfTheRules(t *testing.T) {
	for _, c := range countings() {
		n := ruleForm(c.params, c.lent, c.b)
		if got := show(lateOf(t, n).Routines[3].Body); got != c.late {
			t.Errorf("CountLate of %s with the parameters %v and %v lent has %s, want %s", show(c.b), c.params, c.lent, got, c.late)
		}
	}
	n := normalOf(t, sumProgram())
	if got := show(lateOf(t, n).Routines[1].Body); got != "8:1[0]{0:0[] > 1}{14:0[2] 14:0[2] 9:1[2] 1:0[1 3] 15:0[2] > 4} 15:0[0] > 1" {
		t.Errorf("CountLate has %s", got)
	}
	if got := show(lateOf(t, withLent(n, 1, 0)).Routines[1].Body); got != "8:1[0]{0:0[] > 1}{14:0[2] 9:1[2] 1:0[1 3] 15:0[2] > 4} > 1" {
		t.Errorf("CountLate has %s with a lent parameter", got)
	}
}

func TestCountLateAgreesWithTheSecondWay(t *testing.T) {
	for _, n := range plains() {
		if got, want := lateOf(t, n), lateMeaning(n); text(got) != text(want) {
			t.Fatalf("CountLate(%v) = %v, want %v", n, got, want)
		}
	}
}

func TestCountLateAtTheLimit(t *testing.T) {
	sizes := make(map[int]bool)
	for i, c := range limitForms() {
		want := lateMeaning(c.n)
		for _, r := range want.Routines {
			sizes[stepsIn(r.Body)] = true
		}
		n, ok := impl.CountLate(c.n)
		if ok == c.lateTooLong {
			t.Fatalf("CountLate of the form %d = %v", i, ok)
		}
		if ok && text(n) != text(want) || !ok && text(n) != text(impl.Normal{}) {
			t.Errorf("CountLate of the form %d = %v", i, n)
		}
	}
	if !sizes[600] || !sizes[601] {
		t.Errorf("the bodies have the sizes %v", sizes)
	}
}

// failsToCancel tells if Cancel or Saved takes a normal form that is not balanced.
func failsToCancel(t *testing.T, n impl.Normal) {
	t.Helper()
	if out, ok := impl.Cancel(n); ok || text(out) != text(impl.Normal{}) || impl.Saved(n) != -1 {
		t.Fatalf("Cancel and Saved of a normal form that is not balanced = %v, %v, %d", out, ok, impl.Saved(n))
	}
}

func TestLateCountsOfInvalidNormalForms(t *testing.T) {
	for _, n := range notNormals() {
		if out, ok := impl.CountLate(n); ok || text(out) != text(impl.Normal{}) {
			t.Errorf("CountLate of a normal form that is not valid = %v, %v", out, ok)
		}
		failsToCancel(t, n)
	}
	for _, n := range append(normals(), balancedForms()...) {
		if impl.IsPlain(n) {
			continue
		}
		if out, ok := impl.CountLate(n); ok || text(out) != text(impl.Normal{}) {
			t.Fatalf("CountLate of a normal form that is not plain = %v, %v", out, ok)
		}
	}
	for i, x := range variants() {
		if i%3 == 0 && !impl.Balanced(x.n) {
			failsToCancel(t, x.n)
		}
	}
	for _, c := range countings() {
		n := ruleForm(c.params, c.lent, c.b)
		failsToCancel(t, n)
		failsToCancel(t, withBlock(countedOf(t, n), 2, n.Routines[2].Body))
	}
}

// cancels is a body of a routine with three parameters that are lists, the last one of them lent, and what Cancel makes of it.
type cancels struct {
	b    impl.Block
	want string
}

func TestCancelOfTheRules(t *testing.T) {
	made := con(0)
	for _, c := range []cancels{
		{block(0, drop(1)), "15:0[1] > 0"},
		{block(0, drop(1), dup(0), drop(0)), "15:0[1] > 0"},
		{block(0, dup(0), drop(0), drop(1)), "15:0[1] > 0"},
		{block(2, dup(1), drop(0), drop(1), dup(2), drop(1)), "14:0[2] 15:0[0] 15:0[1] > 2"},
		{block(2, drop(1), drop(0), dup(2)), "14:0[2] 15:0[0] 15:0[1] > 2"},
		{block(3, dup(1), dup(0), dup(1), dup(0), made, drop(0), drop(1), drop(0), drop(0), drop(1), drop(1)), "14:0[0] 14:0[0] 14:0[1] 14:0[1] 6:0[] 15:0[0] 15:0[0] 15:0[0] 15:0[1] 15:0[1] 15:0[1] > 3"},
		{block(3, dup(1), dup(0), drop(1), made, drop(0), dup(2), drop(1), drop(0), drop(2)), "14:0[0] 6:0[] 15:0[0] 15:0[0] 15:0[1] > 3"},
		{block(3, dup(2), dup(1), drop(2), dup(2), made, drop(2), drop(1), drop(0), drop(1)), "14:0[1] 14:0[2] 6:0[] 15:0[0] 15:0[1] 15:0[1] 15:0[2] > 3"},
		// Only what is directly side by side, and in one block, is together.
		{block(3, dup(0), st(impl.OpInt, 1), drop(0), drop(0), drop(1)), "14:0[0] 0:1[] 15:0[0] 15:0[0] 15:0[1] > 3"},
		{block(0, drop(1), dup(0), match(1, 0, block(0, dup(0), drop(0)), block(0, dup(4), drop(0), drop(4), dup(0))), drop(3)), "14:0[0] 15:0[1] 8:1[0]{> 0}{> 0} 15:0[3] > 0"},
		{block(3, drop(1), dup(0), match(1, 0, block(0), block(4, dup(0), dup(4), drop(0), drop(0))), drop(0)), "14:0[0] 15:0[1] 8:1[0]{> 0}{14:0[4] 15:0[0] > 4} 15:0[0] > 3"},
		{block(3, drop(1), match(1, 0, block(0), block(4, dup(0), open(0), drop(4), dup(0), drop(0), dup(4), drop(0)))), "15:0[1] 8:1[0]{> 0}{14:0[0] 16:0[0] 15:0[0] > 4} > 3"},
		{block(3, drop(1), match(1, 0, block(0), block(5, dup(0), drop(0), reuse(0), dup(4), drop(4), into(con(1, 3, 4), 1), dup(5), drop(5)))), "15:0[1] 8:1[0]{> 0}{17:0[0] 6:1into1[3 4] > 5} > 3"},
	} {
		n := ruleForm([]int{1, 1, 1}, []int{2}, c.b)
		whole := withBlock(countedOf(t, plainOf(t, n)), 3, c.b)
		out, ok := impl.Cancel(whole)
		if !ok {
			t.Errorf("Cancel of %s fails", show(c.b))
			continue
		}
		if got := show(out.Routines[3].Body); got != c.want {
			t.Errorf("Cancel of %s has %s, want %s", show(c.b), got, c.want)
		}
		if saved := impl.Saved(whole); saved != impl.StepsOf(c.b)-impl.StepsOf(out.Routines[3].Body) {
			t.Errorf("Saved of %s = %d", show(c.b), saved)
		}
	}
}

func TestCancelOfLongRuns(t *testing.T) {
	var steps []impl.Step
	for k := 0; k < 299; k++ {
		steps = append(steps, dup(k%2))
	}
	for k := 0; k < 299; k++ {
		steps = append(steps, drop(k%2))
	}
	n := ruleForm([]int{1, 1, 1}, []int{2}, block(0, append(steps, drop(1))...))
	n = withBlock(countedOf(t, plainOf(t, n)), 3, n.Routines[3].Body)
	out, ok := impl.Cancel(n)
	if !ok || show(out.Routines[3].Body) != "15:0[1] > 0" || impl.Saved(n) != 598 {
		t.Errorf("Cancel of a long run = %v, %v", out, ok)
	}
}

func TestCancelAgreesWithTheSecondWay(t *testing.T) {
	changed := 0
	for _, n := range balancedVariants() {
		want := withBodiesOf(n, func(r impl.Routine) impl.Block { return cancelMeaning(r.Body) })
		out := cancelOf(t, n)
		if text(out) != text(want) {
			t.Fatalf("Cancel(%v) = %v, want %v", n, out, want)
		}
		if text(out) != text(n) {
			changed++
		}
		less := 0
		for _, many := range impl.CountsOf(n) {
			less += many
		}
		for _, many := range impl.CountsOf(want) {
			less -= many
		}
		if saved := impl.Saved(n); saved != less {
			t.Fatalf("Saved(%v) = %d, want %d", n, saved, less)
		}
	}
	if changed < 300 {
		t.Errorf("only %d normal forms have something to cancel", changed)
	}
}

// balancedVariants returns balanced normal forms, some of them with changes, made only once.
var balancedVariants = sync.OnceValue(makeBalancedVariants)

// makeBalancedVariants makes them.
func makeBalancedVariants() []impl.Normal {
	var out []impl.Normal
	out = append(append(out, balancedForms()...), ruledForms()...)
	for _, x := range variants() {
		if impl.Balanced(x.n) {
			out = append(out, x.n)
		}
	}
	return out
}

// cancelOf returns a balanced normal form with counting steps that have cancelled each other.
func cancelOf(t *testing.T, n impl.Normal) impl.Normal {
	t.Helper()
	out, ok := impl.Cancel(n)
	if !ok {
		t.Fatalf("Cancel(%v) fails", n)
	}
	return out
}

func TestP85LateCountsAreBalanced(t *testing.T) {
	for _, n := range plains() {
		late := lateOf(t, n)
		counts := impl.CountsOf(late)
		if !impl.Balanced(late) || counts[2] != 0 || counts[3] != 0 || text(plainOf(t, late)) != text(n) {
			t.Fatalf("CountLate(%v) = %v", n, late)
		}
	}
}

func TestP86LateCountsHoldParametersToTheEnd(t *testing.T) {
	held := 0
	for _, n := range plains() {
		late := lateOf(t, n)
		for f, r := range late.Routines {
			last := -1
			for k, s := range r.Body.Steps {
				if s.Op < impl.OpDup {
					last = k
				}
			}
			for k := 0; k <= last; k++ {
				owned := impl.OwnedAfter(late, f, k)
				for x, of := range r.Params {
					if of == 0 || has(r.Lent, x) {
						continue
					}
					held++
					if owned[x] == 0 {
						t.Fatalf("OwnedAfter(%v, %d, %d) = %v", late, f, k, owned)
					}
				}
			}
		}
	}
	if held < 500 {
		t.Errorf("only %d times a parameter is held", held)
	}
}

func TestP87LateCountsDoNotChangeWhatIsDone(t *testing.T) {
	for _, n := range plains() {
		doesTheSame(t, n, lateOf(t, n))
	}
}

func TestP88CancelledCountsAreBalanced(t *testing.T) {
	for _, n := range balancedVariants() {
		out := cancelOf(t, n)
		if !impl.Balanced(out) || text(plainOf(t, out)) != text(plainOf(t, n)) {
			t.Fatalf("Cancel(%v) = %v", n, out)
		}
	}
}

func TestP89CancellingOnceIsEnough(t *testing.T) {
	for _, n := range balancedVariants() {
		out := cancelOf(t, n)
		if again := cancelOf(t, out); text(again) != text(out) {
			t.Fatalf("Cancel(%v) = %v, and Cancel of it is %v", n, out, again)
		}
	}
}

func TestP90DupsCancelDrops(t *testing.T) {
	fewer := 0
	for _, n := range balancedVariants() {
		before, now := impl.CountsOf(n), impl.CountsOf(cancelOf(t, n))
		if now[0] > before[0] || before[0]-now[0] != before[1]-now[1] || now[2] != before[2] || now[3] != before[3] {
			t.Fatalf("Cancel(%v) has %v counting steps, and there were %v", n, now, before)
		}
		if now[0] < before[0] {
			fewer++
		}
	}
	if fewer < 200 {
		t.Errorf("only %d normal forms have fewer steps", fewer)
	}
}

func TestP91ADupAndADropSideBySideAreNothing(t *testing.T) {
	m := maker{seed: 12}
	tried := 0
	for _, n := range balancedForms() {
		want := text(cancelOf(t, n))
		for f, r := range n.Routines {
			k := m.pick(len(r.Body.Steps) + 1)
			for _, x := range impl.AliveAfter(n, f, k) {
				tried++
				other := withSteps(n, f, withStep(withStep(r.Body.Steps, k, drop(x)), k, dup(x)))
				if text(cancelOf(t, other)) != want {
					t.Fatalf("Cancel(%v) is other than before the pair of %d in the body %d", other, x, f)
				}
			}
		}
		// Inside of kids, too: where the variable is not alive, the normal form is not balanced.
		f := m.pick(len(n.Routines))
		body := cloneBlock(n.Routines[f].Body)
		blocks := blocksIn(&body)
		b := blocks[m.pick(len(blocks))]
		k, x := m.pick(len(b.Steps)+1), m.pick(6)
		b.Steps = withStep(withStep(b.Steps, k, drop(x)), k, dup(x))
		if other := withBlock(n, f, body); impl.Balanced(other) {
			tried++
			if text(cancelOf(t, other)) != want {
				t.Fatalf("Cancel(%v) is other than before the pair of %d", other, x)
			}
		}
	}
	if tried < 1000 {
		t.Errorf("only %d pairs are tried", tried)
	}
}

func TestP92StepsAreSavedInPairs(t *testing.T) {
	for _, n := range balancedVariants() {
		out := cancelOf(t, n)
		less := 0
		for f, r := range n.Routines {
			less += impl.StepsOf(r.Body) - impl.StepsOf(out.Routines[f].Body)
		}
		if saved := impl.Saved(n); saved != less || saved%2 != 0 || saved < 0 {
			t.Fatalf("Saved(%v) = %d, and the bodies have %d steps less", n, saved, less)
		}
	}
}
