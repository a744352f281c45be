package tests

import (
	"testing"

	"loop.example/refcountml/impl"
)

func TestCountOfTheRules(t *testing.T) {
	for _, c := range countings() {
		n := ruleForm(c.params, c.lent, c.b)
		if got := show(countedOf(t, n).Routines[3].Body); got != c.want {
			t.Errorf("Count of %s with the parameters %v and %v lent has %s, want %s", show(c.b), c.params, c.lent, got, c.want)
		}
	}
}

func TestCountOfTheExample(t *testing.T) {
	n := normalOf(t, sumProgram())
	if got := show(countedOf(t, n).Routines[1].Body); got != "8:1[0]{15:0[0] 0:0[] > 1}{14:0[2] 15:0[0] 9:1[2] 1:0[1 3] > 4} > 1" {
		t.Errorf("Count has %s", got)
	}
	if got := show(countedOf(t, withLent(n, 1, 0)).Routines[1].Body); got != "8:1[0]{0:0[] > 1}{14:0[2] 9:1[2] 15:0[2] 1:0[1 3] > 4} > 1" {
		t.Errorf("Count has %s with a lent parameter", got)
	}
	if got := show(countedOf(t, withLent(n, 1, 0)).Routines[0].Body); got != "0:5[] 0:7[] 6:0[] 6:1[1 2] 6:1[0 3] 9:1[4] 15:0[4] > 5" {
		t.Errorf("Count has %s for a call that lends", got)
	}
}

func TestCountAgreesWithTheSecondWay(t *testing.T) {
	for _, n := range plains() {
		if got, want := countedOf(t, n), preciseMeaning(n); text(got) != text(want) {
			t.Fatalf("Count(%v) = %v, want %v", n, got, want)
		}
	}
}

// lostCells has steps that construct values that nothing uses, so that each of these is dropped, and integers.
func lostCells(cells int, integers int) impl.Block {
	out := impl.Block{Result: cells}
	for k := 0; k < cells; k++ {
		out.Steps = append(out.Steps, st(impl.OpCon, 0))
	}
	for k := 0; k < integers; k++ {
		out.Steps = append(out.Steps, st(impl.OpInt, 1))
	}
	return out
}

// atLimit is a plain normal form, and whether its bodies have too many steps with precise and with late counts.
type atLimit struct {
	n           impl.Normal
	tooLong     bool
	lateTooLong bool
}

// limitForms returns plain normal forms that have with counting steps as many steps as may be, or some more.
func limitForms() []atLimit {
	var out []atLimit
	lists := normalWith(impl.Program{Decls: lists(), Funcs: []impl.Func{{}, {Params: []int{0}}, {Params: []int{0, 1}, Result: 1}}})
	lists = withBlock(withBlock(withBlock(lists, 0, wideBlock(1)), 1, block(0)), 2, block(1))
	for _, c := range []struct{ cells, integers int }{{299, 2}, {299, 3}, {300, 1}, {1, 598}, {1, 599}, {0, 600}} {
		tooLong := 2*c.cells+c.integers > 600
		b := lostCells(c.cells, c.integers)
		out = append(out, atLimit{withBlock(lists, 0, b), tooLong, tooLong})
		// The steps of kids count, and each body has a limit of its own.
		b.Result++
		kids := block(1, choice(impl.OpIf, 0, 0, block(0), impl.Block{Steps: b.Steps[:len(b.Steps)-1], Result: 0}))
		out = append(out, atLimit{withBlock(withBlock(lists, 1, kids), 0, lostCells(299, 2)), tooLong, tooLong})
	}
	for extra := 0; extra <= 1; extra++ {
		// Each level has a choice, a list that is made, and an OpDrop step of the other one; late it has six steps.
		made := block(1)
		for k := 0; k < 200; k++ {
			made = block(2, choice(impl.OpIf, 0, 0, block(2, st(impl.OpCon, 0)), made))
		}
		// Each level has a choice, and an OpDrop step of the list, which is late dropped only once.
		lost := block(0, st(impl.OpCon, 1, 0, 1))
		for k := 0; k < 299; k++ {
			lost = block(2, choice(impl.OpIf, 0, 0, block(0), lost))
		}
		for k := 0; k < extra; k++ {
			made = block(2, append(made.Steps, st(impl.OpInt, 1))...)
			lost = block(2, append(lost.Steps, st(impl.OpInt, 1))...)
		}
		out = append(out, atLimit{withBlock(lists, 2, made), extra > 0, true})
		integers := withBlock(lists, 2, lost)
		integers.Routines[2].Result = 0
		out = append(out, atLimit{integers, extra > 0, false})
	}
	return out
}

func TestCountAtTheLimit(t *testing.T) {
	sizes := make(map[int]bool)
	for i, c := range limitForms() {
		if !impl.IsPlain(c.n) {
			t.Fatalf("the form %d is not plain", i)
		}
		want := preciseMeaning(c.n)
		for _, r := range want.Routines {
			sizes[stepsIn(r.Body)] = true
		}
		n, ok := impl.Count(c.n)
		if ok == c.tooLong {
			t.Fatalf("Count of the form %d = %v", i, ok)
		}
		if ok && text(n) != text(want) || !ok && text(n) != text(impl.Normal{}) {
			t.Errorf("Count of the form %d = %v", i, n)
		}
	}
	if !sizes[600] || !sizes[601] {
		t.Errorf("the bodies have the sizes %v", sizes)
	}
}

func TestIsPlain(t *testing.T) {
	for _, n := range plains() {
		if !impl.IsPlain(n) {
			t.Fatalf("IsPlain(%v) = false", n)
		}
	}
	for _, n := range normals() {
		marks := make(map[int]int)
		for _, r := range n.Routines {
			markSteps(r.Body, marks)
		}
		want := marks[-1]+marks[impl.OpDup]+marks[impl.OpDrop]+marks[impl.OpOpen]+marks[impl.OpReuse] == 0
		if impl.IsPlain(n) != want {
			t.Fatalf("IsPlain(%v) = %v", n, !want)
		}
	}
}

func TestIsPlainAtOneStep(t *testing.T) {
	steps := []impl.Step{st(impl.OpInt, 6), st(impl.OpCon, 0), st(impl.OpCon, 1, 0, 1), st(impl.OpInt, 1)}
	n := withBlock(listNormal(steps...), 1, block(1, st(impl.OpInt, 0)))
	if !impl.IsPlain(n) || impl.IsPlain(listNormal(steps...)) {
		t.Error("IsPlain of a normal form without and with counting steps in its last routine")
	}
	changed := []impl.Normal{withBlock(n, 0, block(0, steps[0], steps[1], into(steps[2], 2), steps[3]))}
	for op := impl.OpDup; op <= impl.OpReuse; op++ {
		inKid := choice(impl.OpMatch, 1, 2, block(0), block(0, st(op, 0, 2)))
		changed = append(changed,
			withBlock(n, 0, block(0, append(steps, st(op, 0, 1))...)),
			withBlock(n, 0, block(0, append(steps, inKid)...)),
			withBlock(n, 1, block(1, st(op, 0, 0), st(impl.OpInt, 0))),
		)
	}
	for _, other := range changed {
		if !impl.ValidNormal(other) || impl.IsPlain(other) {
			t.Errorf("IsPlain(%v) = true, or it is not valid", other)
		}
	}
}

// notNormals returns normal forms that are not valid.
func notNormals() []impl.Normal {
	out := append(badSignatures(), impl.Normal{})
	n := ruleNormal()
	for f := range n.Routines {
		for _, b := range append(tooLong(), block(1<<62), block(-1), block(0, st(impl.OpInt, 1000)), block(0, st(impl.OpDup, 0, 7)), block(0, st(impl.OpVar, 0))) {
			out = append(out, withBlock(n, f, b))
		}
	}
	return out
}

func TestCountsOfInvalidNormalForms(t *testing.T) {
	for _, n := range notNormals() {
		if impl.IsPlain(n) || len(impl.CountsOf(n)) != 0 {
			t.Errorf("IsPlain or CountsOf(%v)", text(n)[:20])
		}
		if out, ok := impl.Count(n); ok || text(out) != text(impl.Normal{}) {
			t.Errorf("Count of a normal form that is not valid = %v, %v", out, ok)
		}
	}
	for _, n := range append(normals(), balancedForms()...) {
		if impl.IsPlain(n) {
			continue
		}
		if out, ok := impl.Count(n); ok || text(out) != text(impl.Normal{}) {
			t.Fatalf("Count of a normal form that is not plain = %v, %v", out, ok)
		}
	}
}

func TestCountsOf(t *testing.T) {
	for _, n := range append(normals(), balancedForms()...) {
		marks := make(map[int]int)
		for _, r := range n.Routines {
			markSteps(r.Body, marks)
		}
		if got := impl.CountsOf(n); !same(got, marks[impl.OpDup], marks[impl.OpDrop], marks[impl.OpOpen], marks[impl.OpReuse]) {
			t.Fatalf("CountsOf(%v) = %v", n, got)
		}
	}
	steps := []impl.Step{st(impl.OpInt, 1), st(impl.OpCon, 0), dup(1), dup(1), dup(1), drop(1), choice(impl.OpIf, 0, 0, block(0, drop(1)), block(0, st(impl.OpReuse, 0, 1)))}
	n := listNormal(steps...)
	if got := impl.CountsOf(n); !same(got, 4, 2, 1, 1) {
		t.Errorf("CountsOf = %v", got)
	}
}

func TestP65PlainFormsHaveNothingToLeaveOut(t *testing.T) {
	plain := 0
	for _, n := range append(append(normals(), plains()...), balancedForms()...) {
		equal := text(plainOf(t, n)) == text(n)
		if impl.IsPlain(n) != equal {
			t.Fatalf("IsPlain(%v) = %v", n, !equal)
		}
		if equal {
			plain++
		}
	}
	if plain < 300 {
		t.Errorf("only %d normal forms are plain", plain)
	}
}

func TestP66PlainFormsHaveNoCountingSteps(t *testing.T) {
	for _, n := range plains() {
		if got := impl.CountsOf(n); !same(got, 0, 0, 0, 0) {
			t.Fatalf("CountsOf(%v) = %v", n, got)
		}
	}
}

func TestP67CountedFormsAreBalanced(t *testing.T) {
	for _, n := range plains() {
		c := countedOf(t, n)
		counts := impl.CountsOf(c)
		if !impl.Balanced(c) || counts[2] != 0 || counts[3] != 0 {
			t.Fatalf("Count(%v) has %v, or is not balanced", n, counts)
		}
	}
}

func TestP68CountingAddsCountingStepsAlone(t *testing.T) {
	for _, n := range plains() {
		if got := plainOf(t, countedOf(t, n)); text(got) != text(n) {
			t.Fatalf("PlainOf Count(%v) = %v", n, got)
		}
	}
}

func TestP69CountingDoesNotChangeWhatIsDone(t *testing.T) {
	for _, n := range plains() {
		doesTheSame(t, n, countedOf(t, n))
	}
}

// contextAt returns the context after the first k steps of a body.
func contextAt(n impl.Normal, f int, k int) context {
	c := context{n, n.Routines[f].Params}
	for _, s := range n.Routines[f].Body.Steps[:k] {
		if s.Op < impl.OpDup {
			c = c.with(c.defined(s))
		}
	}
	return c
}

func TestP70CountedVariablesAreOwnedExactlyAsLongAsTheyAreUsed(t *testing.T) {
	owned, not := 0, 0
	for _, n := range plains() {
		c := countedOf(t, n)
		for f, r := range c.Routines {
			for k := 0; k <= len(r.Body.Steps); k++ {
				if k < len(r.Body.Steps) && r.Body.Steps[k].Op >= impl.OpDup {
					continue
				}
				types := contextAt(c, f, k).types
				used := impl.UsedFrom(r.Body, len(types), k)
				counts := impl.OwnedAfter(c, f, k)
				for v, of := range types {
					if of == 0 || has(r.Lent, v) {
						continue
					}
					if has(used, v) != (counts[v] > 0) {
						t.Fatalf("OwnedAfter(%v, %d, %d) = %v, and %v are used", c, f, k, counts, used)
					}
					if counts[v] > 0 {
						owned++
					} else {
						not++
					}
				}
			}
		}
	}
	if owned < 500 || not < 500 {
		t.Errorf("%d are owned, and %d not", owned, not)
	}
}

func TestP71ParametersThatAreNotUsedAreDroppedFirst(t *testing.T) {
	dropped := 0
	for _, n := range plains() {
		c := countedOf(t, n)
		for f, r := range c.Routines {
			used := impl.UsedIn(n.Routines[f].Body, len(r.Params))
			var want []int
			for v, of := range r.Params {
				if of != 0 && !has(r.Lent, v) && !has(used, v) {
					want = append(want, v)
				}
			}
			var got []int
			for _, s := range r.Body.Steps {
				if s.Op != impl.OpDrop {
					break
				}
				got = append(got, s.Args[0])
			}
			if !same(got, want...) {
				t.Fatalf("the body %d of Count(%v) begins with drops of %v, want %v", f, n, got, want)
			}
			dropped += len(got)
		}
	}
	if dropped < 50 {
		t.Errorf("only %d parameters are dropped", dropped)
	}
}

func TestP72PreciseCountsDoNotCancel(t *testing.T) {
	for _, n := range plains() {
		if saved := impl.Saved(countedOf(t, n)); saved != 0 {
			t.Fatalf("Saved of Count(%v) = %d", n, saved)
		}
	}
}

func TestP73PreciseCountsHaveTheFewestDups(t *testing.T) {
	less := 0
	for _, n := range plains() {
		c, late := impl.CountsOf(countedOf(t, n)), impl.CountsOf(lateOf(t, n))
		if c[0] > late[0] {
			t.Fatalf("Count(%v) has %v counting steps, and CountLate %v", n, c, late)
		}
		if c[0] < late[0] {
			less++
		}
	}
	if less < 200 {
		t.Errorf("there are less dups only %d times", less)
	}
}

func TestP74NormalFormsOfProgramsCanBeCounted(t *testing.T) {
	for _, p := range append(runs(), crowded()...) {
		n := normalOf(t, p)
		if !impl.Balanced(countedOf(t, n)) || !impl.Balanced(lateOf(t, n)) {
			t.Fatalf("Count or CountLate of Normalize(%v) is not balanced", p)
		}
	}
}

// crowded returns programs with as many nodes as may be, which need many counting steps: each variable is dropped in many kids.
func crowded() []impl.Program {
	var out []impl.Program
	wide := dataOf([]int{1, 1, 1}, []int{1, 1, 1}, nil)
	for binds := 0; binds <= 8; binds++ {
		e := v(binds + 2)
		nodes := 1 + 2*binds
		for k := 0; nodes+4 <= impl.MaxNodes; k++ {
			e = ex(impl.OpMatch, 1, v(k%3), v(0), v(1), e)
			nodes += 4
		}
		for k := 0; k < binds; k++ {
			e = let(ex(impl.OpCon, 2), e)
		}
		out = append(out, impl.Program{Decls: []impl.Decl{wide}, Funcs: []impl.Func{{Body: num(0)}, {Params: []int{1, 1, 1}, Result: 1, Body: e}}})
	}
	return out
}

func TestP75CountingStepsCanBePutInAnywhere(t *testing.T) {
	m := maker{seed: 8}
	tried := 0
	for _, n := range append(normals(), balancedForms()...) {
		f := m.pick(len(n.Routines))
		body := cloneBlock(n.Routines[f].Body)
		blocks := blocksIn(&body)
		b := blocks[m.pick(len(blocks))]
		b.Steps = withStep(b.Steps, m.pick(len(b.Steps)+1), dup(m.pick(6)))
		other := withBlock(n, f, body)
		if !impl.ValidNormal(other) {
			// There is no such variable at this place, or it is an integer.
			continue
		}
		tried++
		want := impl.CountsOf(n)
		want[0]++
		if got := impl.CountsOf(other); !same(got, want...) {
			t.Fatalf("CountsOf(%v) = %v, want %v", other, got, want)
		}
	}
	if tried < 300 {
		t.Errorf("only %d steps can be put in", tried)
	}
}
