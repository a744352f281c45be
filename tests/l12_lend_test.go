package tests

import (
	"testing"

	"loop.example/refcountml/impl"
)

// borrowing and unlending are the functions of the chapter 12.
var (
	borrowing = rewriter{"Borrow", impl.Borrow}
	unlending = rewriter{"Unlend", impl.Unlend}
)

// lending is a list of routines after the first one, and the text of the lists of parameters that can be lent to these.
type lending struct {
	routines []impl.Routine
	want     string
}

// takes returns a routine with some parameters.
func takes(params []int, result int, b impl.Block) impl.Routine {
	return impl.Routine{Params: params, Result: result, Body: b}
}

// lendForm returns a normal form with the declarations of ruleForm.
func lendForm(routines []impl.Routine) impl.Normal {
	out := impl.Normal{Decls: ruleForm(nil, nil, block(0, one)).Decls}
	out.Routines = append([]impl.Routine{{Body: block(0, one)}}, routines...)
	return out
}

// lents returns what is lent to each routine but the first one.
func lents(n impl.Normal) [][]int {
	var out [][]int
	for _, r := range n.Routines[1:] {
		out = append(out, r.Lent)
	}
	return out
}

// checkLending tries routines, also with what is lent in another way before, where that is possible.
func checkLending(t *testing.T, rules []lending) {
	t.Helper()
	for i, c := range rules {
		n := lendForm(c.routines)
		out := rewritten(t, borrowing, n)
		if got := text(lents(out)); got != c.want {
			t.Errorf("Borrow of the form %d lends %s, want %s", i, got, c.want)
		}
		if len(out.Routines[0].Lent) != 0 || text(rewritten(t, unlending, out)) != text(n) {
			t.Errorf("Borrow of the form %d = %v", i, out)
		}
		for f := range n.Routines {
			var all []int
			for v, of := range n.Routines[f].Params {
				if of != 0 {
					all = append(all, v)
				}
			}
			if other := withLent(n, f, all...); impl.IsPlain(other) && (text(rewritten(t, borrowing, other)) != text(out) || text(rewritten(t, unlending, other)) != text(n)) {
				t.Errorf("Borrow or Unlend of the form %d with all lent to %d", i, f)
			}
		}
	}
}

// call, enclose and apply are steps that hand on variables.
func call(f int, args ...int) impl.Step    { return st(impl.OpCall, f, args...) }
func enclose(f int, args ...int) impl.Step { return st(impl.OpClose, f, args...) }
func apply(a int, b int) impl.Step         { return st(impl.OpApply, 0, a, b) }

func TestBorrowOfParameters(t *testing.T) {
	list, two := []int{1}, []int{1, 1}
	checkLending(t, []lending{
		{nil, "[]"},
		{[]impl.Routine{takes(nil, 1, block(0, con(0)))}, "[[]]"},
		// What is not used, or only matched, can be lent, but for integers.
		{[]impl.Routine{takes([]int{0}, 0, block(0)), takes([]int{1, 0, 2}, 0, block(1)), takes([]int{3, 4, 1}, 0, block(3, one))}, "[[] [0 2] [0 1 2]]"},
		{[]impl.Routine{takes(list, 0, block(1, match(1, 0, block(1, one), block(1)))), takes(list, 1, block(1, match(1, 0, block(1, con(0)), block(2))))}, "[[0] [0]]"},
		{[]impl.Routine{takes(list, 0, block(1, match(1, 0, block(1, one), block(3, match(1, 0, block(1), block(3))))))}, "[[0]]"},
		{[]impl.Routine{takes(list, 1, block(1, match(1, 0, block(1, con(0)), block(3, con(1, 1, 2)))))}, "[[0]]"},
		// Results of blocks are consumed, also those of kids.
		{[]impl.Routine{takes(two, 1, block(0)), takes(two, 1, block(1)), takes([]int{0, 1}, 1, block(2, con(0)))}, "[[1] [0] [1]]"},
		{[]impl.Routine{takes([]int{0, 1, 1}, 1, block(3, if0(0, block(1), block(3, con(0))))), takes([]int{0, 1, 1}, 1, block(3, if0(0, block(3, con(0)), block(2))))}, "[[2] [1]]"},
		{[]impl.Routine{takes(list, 0, block(3, one, match(1, 0, block(0), block(3)), one))}, "[[]]"},
		{[]impl.Routine{takes(two, 1, block(2, match(1, 0, block(1), block(3)))), takes(two, 1, block(2, match(1, 0, block(2, con(0)), block(4, match(1, 3, block(0), block(5))))))}, "[[0] [1]]"},
		// Arguments of OpCon, OpClose and OpApply steps are consumed.
		{[]impl.Routine{takes(two, 3, block(2, con(2, 0, 0))), takes(two, 3, block(2, con(2, 0, 1))), takes([]int{0, 1}, 1, block(2, con(1, 0, 1)))}, "[[1] [] []]"},
		{[]impl.Routine{takes([]int{0, 1, 1}, 0, block(0, if0(0, block(0), block(4, con(2, 2, 2), one))))}, "[[1]]"},
		{[]impl.Routine{takes([]int{2, 1, 1}, 1, block(3, apply(0, 2))), takes([]int{2, 1}, 1, block(2, con(0))), takes([]int{1, 2}, 1, block(3, con(0), apply(1, 2)))}, "[[1] [0 1] [0]]"},
		{[]impl.Routine{takes(two, 2, block(2, enclose(2, 1))), takes(two, 1, block(2, con(0)))}, "[[0] []]"},
	})
}

func TestBorrowOfCalls(t *testing.T) {
	list, two, three := []int{1}, []int{1, 1}, []int{1, 1, 1}
	inspects := takes(list, 0, block(1, match(1, 0, block(1, one), block(1))))
	consumes := takes(list, 1, block(0))
	second := takes(two, 1, block(1))
	checkLending(t, []lending{
		{[]impl.Routine{takes(list, 0, block(1, call(2, 0))), inspects}, "[[0] [0]]"},
		{[]impl.Routine{takes(list, 1, block(1, call(2, 0))), consumes}, "[[] []]"},
		// The place counts, and each one where a parameter is given.
		{[]impl.Routine{takes(two, 1, block(2, call(2, 0, 1))), second}, "[[0] [0]]"},
		{[]impl.Routine{takes(two, 1, block(2, call(2, 1, 0))), second}, "[[1] [0]]"},
		{[]impl.Routine{takes(two, 1, block(2, call(2, 0, 0))), second}, "[[1] [0]]"},
		{[]impl.Routine{takes([]int{1, 0}, 1, block(3, con(0), call(2, 0, 2))), second}, "[[0] [0]]"},
		{[]impl.Routine{takes([]int{0, 1}, 0, block(2, if0(0, block(2, call(2, 1)), block(2, one)))), inspects}, "[[1] [0]]"},
		{[]impl.Routine{takes([]int{0, 1}, 1, block(2, if0(0, block(2, con(0)), block(2, call(2, 1))))), consumes}, "[[] []]"},
		{[]impl.Routine{takes(list, 0, block(2, call(2, 0), call(3, 0))), inspects, takes(list, 0, block(1, one, con(1, 1, 0)))}, "[[] [0] []]"},
		// Routines that call themselves.
		{[]impl.Routine{takes(list, 0, block(1, call(1, 0)))}, "[[0]]"},
		{[]impl.Routine{takes(two, 1, block(2, call(1, 0, 1)))}, "[[0 1]]"},
		{[]impl.Routine{takes(two, 1, block(2, call(1, 1, 0)))}, "[[0 1]]"},
		{[]impl.Routine{takes(two, 1, block(2, match(1, 0, block(1), block(4, call(1, 1, 0)))))}, "[[]]"},
		{[]impl.Routine{takes(two, 1, block(2, match(1, 0, block(1), block(4, call(1, 0, 3)))))}, "[[0]]"},
		{[]impl.Routine{takes(two, 1, block(2, match(1, 0, block(1), block(4, call(1, 3, 1)))))}, "[[0]]"},
		{[]impl.Routine{takes(three, 0, block(3, call(1, 1, 2, 0)))}, "[[0 1 2]]"},
		{[]impl.Routine{takes(three, 1, block(3, match(1, 0, block(0), block(5, call(1, 1, 2, 0)))))}, "[[]]"},
		{[]impl.Routine{takes(three, 1, block(3, match(1, 1, block(1), block(5, call(1, 2, 1, 0)))))}, "[[0 2]]"},
		{[]impl.Routine{takes([]int{1, 0, 2}, 1, block(4, con(0), call(1, 3, 1, 2)))}, "[[0 2]]"},
		// Routines that call each other, in all orders.
		{[]impl.Routine{takes(list, 0, block(1, call(2, 0))), takes(list, 0, block(1, call(1, 0)))}, "[[0] [0]]"},
		{[]impl.Routine{takes(list, 0, block(1, call(2, 0))), takes(list, 0, block(1, call(3, 0))), takes(list, 0, block(1, call(1, 0)))}, "[[0] [0] [0]]"},
		{[]impl.Routine{takes(list, 1, block(1, call(2, 0))), takes(list, 1, block(1, call(3, 0))), consumes}, "[[] [] []]"},
		{[]impl.Routine{consumes, takes(list, 1, block(1, call(1, 0))), takes(list, 1, block(1, call(2, 0)))}, "[[] [] []]"},
		{[]impl.Routine{takes(list, 1, block(1, call(3, 0))), consumes, takes(list, 1, block(1, call(2, 0)))}, "[[] [] []]"},
		{[]impl.Routine{takes([]int{0, 1}, 1, block(2, if0(0, block(1), block(2, call(2, 1))))), takes(list, 1, block(2, one, call(1, 1, 0)))}, "[[] []]"},
		{[]impl.Routine{takes(two, 1, block(2, call(2, 0, 1))), takes(two, 1, block(2, match(1, 0, block(1), block(4, call(1, 0, 1)))))}, "[[0] [0]]"},
		{[]impl.Routine{takes(three, 1, block(3, call(2, 2, 0, 1))), takes(three, 1, block(3, call(3, 2, 0, 1))), takes(three, 1, block(0))}, "[[0 2] [0 1] [1 2]]"},
	})
}

func TestBorrowOfClosures(t *testing.T) {
	list, two := []int{1}, []int{1, 1}
	unused := takes(two, 1, block(2, con(0)))
	checkLending(t, []lending{
		{[]impl.Routine{unused, takes(list, 2, block(1, enclose(1, 0)))}, "[[] []]"},
		{[]impl.Routine{unused, unused}, "[[0 1] [0 1]]"},
		// It does not matter in which routine or block the closure is made, nor whether that is ever executed.
		{[]impl.Routine{takes([]int{0, 1}, 1, block(2, con(0))), takes([]int{0}, 2, block(1, if0(0, block(1, enclose(3)), block(1, enclose(3))))), takes(list, 1, block(1, con(0)))}, "[[1] [] []]"},
		{[]impl.Routine{takes(two, 1, block(3, enclose(1, 0), con(0)))}, "[[]]"},
		{[]impl.Routine{takes(two, 1, block(4, con(0), enclose(1, 2), con(0)))}, "[[]]"},
		// What is lent only to a routine of which there is a closure is not lent.
		{[]impl.Routine{takes(two, 1, block(2, call(2, 0, 1))), takes(two, 1, block(2, con(0))), takes(list, 2, block(1, enclose(2, 0)))}, "[[] [] []]"},
		{[]impl.Routine{takes(two, 1, block(2, call(2, 0, 1))), takes(two, 1, block(2, con(0))), takes(list, 2, block(1, enclose(1, 0)))}, "[[] [0 1] []]"},
	})
}

// place is a parameter of a routine.
type place struct{ f, v int }

// consumesPlace reports whether a block consumes a parameter, where some are lent.
func consumesPlace(b impl.Block, v int, lent map[place]bool) bool {
	found := b.Result == v
	for _, s := range b.Steps {
		for at, arg := range s.Args {
			switch s.Op {
			case impl.OpCon, impl.OpClose, impl.OpApply:
				found = found || arg == v
			case impl.OpCall:
				found = found || arg == v && !lent[place{s.Num, at}]
			}
		}
		for _, kid := range s.Kids {
			found = found || consumesPlace(kid, v, lent)
		}
	}
	return found
}

// closedIn marks the routines of which a block makes a closure.
func closedIn(b impl.Block, marks map[int]bool) {
	for _, s := range b.Steps {
		if s.Op == impl.OpClose {
			marks[s.Num] = true
		}
		for _, kid := range s.Kids {
			closedIn(kid, marks)
		}
	}
}

// borrowMeaning returns what Borrow should: it tries all sets of parameters, and takes the largest one of those that can be lent.
func borrowMeaning(n impl.Normal) impl.Normal {
	closed := make(map[int]bool)
	for _, r := range n.Routines {
		closedIn(r.Body, closed)
	}
	var may []place
	for f, r := range n.Routines {
		for v, of := range r.Params {
			if of != 0 && !closed[f] {
				may = append(may, place{f, v})
			}
		}
	}
	best := make(map[place]bool)
	for set := 0; set < 1<<len(may); set++ {
		lent := make(map[place]bool)
		for i, p := range may {
			if set>>i%2 == 1 {
				lent[p] = true
			}
		}
		fine := true
		for p := range lent {
			fine = fine && !consumesPlace(n.Routines[p.f].Body, p.v, lent)
		}
		if fine && len(lent) > len(best) {
			best = lent
		}
	}
	out := impl.Normal{Decls: n.Decls}
	for f, r := range n.Routines {
		r.Lent = nil
		for v := range r.Params {
			if best[place{f, v}] {
				r.Lent = append(r.Lent, v)
			}
		}
		out.Routines = append(out.Routines, r)
	}
	return out
}

// handing returns a block in a scope of some variables, of which some are lists, that hands these on to other routines.
func (m *maker) handing(lists []int, vars int, depth int) impl.Block {
	lists = append([]int{}, lists...)
	var out impl.Block
	for k := 1 + m.pick(2); k > 0; k-- {
		s := call(1+m.pick(3), m.pickOf(lists), m.pickOf(lists), m.pickOf(lists))
		if depth > 0 && m.pick(3) > 0 {
			s = match(1, m.pickOf(lists), m.handing(lists, vars, depth-1), m.handing(append([]int{vars + 1}, lists...), vars+2, depth-1))
		}
		out.Steps = append(out.Steps, s)
		lists = append(lists, vars)
		vars++
	}
	out.Result = m.pickOf(lists)
	if m.pick(4) > 0 {
		out.Steps = append(out.Steps, con(0))
		out.Result = vars
	}
	return out
}

// lendable returns plain normal forms whose routines hand on their parameters to each other.
func lendable() []impl.Normal {
	var out []impl.Normal
	m := maker{seed: 65}
	for n := 0; n < 300; n++ {
		var routines []impl.Routine
		for f := 1; f <= 3; f++ {
			routines = append(routines, takes([]int{1, 1, 1}, 1, m.handing([]int{0, 1, 2}, 3, n%3)))
		}
		first := block(5, one, con(0), con(1, 0, 1), con(1, 0, 2), call(1, 1, 2, 3), match(1, 4, block(0), block(5)))
		out = append(out, withBlock(lendForm(routines), 0, first))
	}
	return out
}

func TestBorrowAgreesWithTheSecondWay(t *testing.T) {
	some, none, all := 0, 0, lendable()
	for _, n := range append(all, plains()...) {
		got, want := rewritten(t, borrowing, n), borrowMeaning(n)
		if text(got) != text(want) {
			t.Fatalf("Borrow(%v) = %v, want %v", n, got, want)
		}
		for _, r := range got.Routines {
			if len(r.Lent) > 0 {
				some++
			} else if len(r.Params) > 0 {
				none++
			}
		}
	}
	if some < 200 || none < 200 {
		t.Errorf("something is lent to %d routines, and nothing to %d", some, none)
	}
}

func TestLendingOfTheExample(t *testing.T) {
	n := rewritten(t, borrowing, normalOf(t, sumProgram()))
	if text(lents(n)) != "[[0]]" {
		t.Errorf("Borrow lends %v", lents(n))
	}
	if got := show(countedOf(t, n).Routines[1].Body); got != "8:1[0]{0:0[] > 1}{14:0[2] 9:1[2] 15:0[2] 1:0[1 3] > 4} > 1" {
		t.Errorf("Count of Borrow has %s", got)
	}
}

func TestLendingOfInvalidNormalForms(t *testing.T) {
	for _, n := range notNormals() {
		failsToRewrite(t, borrowing, n)
		failsToRewrite(t, unlending, n)
	}
	for _, n := range append(normals(), balancedForms()...) {
		if !impl.IsPlain(n) {
			failsToRewrite(t, borrowing, n)
			failsToRewrite(t, unlending, n)
		}
	}
	// One counting step, or one Into, is too much, and so is a closure of a routine with Lent.
	n := lendForm([]impl.Routine{takes([]int{1}, 1, block(1, con(0))), takes([]int{1}, 2, block(1, enclose(1)))})
	rewritten(t, borrowing, n)
	for _, b := range []impl.Block{block(1, dup(0), con(0)), block(1, con(0), drop(0)), block(1, into(con(0), 1))} {
		failsToRewrite(t, borrowing, withBlock(n, 1, b))
		failsToRewrite(t, unlending, withBlock(n, 1, b))
	}
	failsToRewrite(t, borrowing, withLent(n, 1, 0))
	failsToRewrite(t, unlending, withLent(n, 1, 0))
}

func TestLendingAtTheLimit(t *testing.T) {
	n := lendForm([]impl.Routine{takes([]int{1, 1}, 1, block(0, manyInts(600)...))})
	if out := rewritten(t, borrowing, n); text(lents(out)) != "[[1]]" || impl.StepsOf(out.Routines[1].Body) != 600 {
		t.Error("Borrow of a body with 600 steps")
	}
	failsToRewrite(t, borrowing, withBlock(n, 1, block(0, manyInts(601)...)))
	failsToRewrite(t, unlending, withBlock(n, 1, block(0, manyInts(601)...)))
}

// eachLending calls a function for plain normal forms, each with what Borrow and Unlend make of it.
func eachLending(t *testing.T, check func(n, lent, unlent impl.Normal)) {
	for _, n := range append(lendable(), plains()...) {
		check(n, rewritten(t, borrowing, n), rewritten(t, unlending, n))
	}
}

func TestP106LendingChangesLentAlone(t *testing.T) {
	eachLending(t, func(n, lent, unlent impl.Normal) {
		if !impl.IsPlain(lent) || text(rewritten(t, unlending, lent)) != text(unlent) {
			t.Fatalf("Borrow(%v) = %v", n, lent)
		}
	})
}

func TestP107LendingOnceIsEnough(t *testing.T) {
	eachLending(t, func(n, lent, unlent impl.Normal) {
		if text(rewritten(t, borrowing, lent)) != text(lent) || text(rewritten(t, borrowing, unlent)) != text(lent) {
			t.Fatalf("Borrow(%v) = %v", n, lent)
		}
	})
}

func TestP108LentParametersAreNeverOwned(t *testing.T) {
	seen := 0
	eachLending(t, func(n, lent, unlent impl.Normal) {
		counted, ok := impl.Count(lent)
		if !ok {
			return
		}
		if !impl.Balanced(counted) {
			t.Fatalf("Count of Borrow(%v) is not balanced", n)
		}
		for f, r := range counted.Routines {
			for k := 0; k <= len(r.Body.Steps); k++ {
				owned := impl.OwnedAfter(counted, f, k)
				for _, v := range r.Lent {
					seen++
					if owned[v] != 0 {
						t.Fatalf("OwnedAfter(%v, %d, %d) = %v", counted, f, k, owned)
					}
				}
			}
		}
	})
	if seen < 1000 {
		t.Errorf("only %d places have something lent", seen)
	}
}

func TestP109LendingSavesDups(t *testing.T) {
	fewer := 0
	eachLending(t, func(n, lent, unlent impl.Normal) {
		a, fine := impl.Count(lent)
		b, well := impl.Count(unlent)
		if !fine || !well {
			return
		}
		now, before := impl.CountsOf(a), impl.CountsOf(b)
		if now[0] > before[0] {
			t.Fatalf("Count of Borrow(%v) has %d dups, and Count of Unlend %d", n, now[0], before[0])
		}
		if now[0] < before[0] {
			fewer++
		}
	})
	if fewer < 100 {
		t.Errorf("only %d normal forms have fewer dups", fewer)
	}
}

func TestP110LendingDoesNotChangeWhatIsDone(t *testing.T) {
	eachLending(t, func(n, lent, unlent impl.Normal) {
		doesTheSame(t, n, lent)
		doesTheSame(t, n, unlent)
	})
}

func TestP111NothingIsLentAnyMore(t *testing.T) {
	alike := 0
	eachLending(t, func(n, lent, unlent impl.Normal) {
		if !impl.IsPlain(unlent) {
			t.Fatalf("Unlend(%v) = %v", n, unlent)
		}
		some := false
		for f, r := range unlent.Routines {
			if len(r.Lent) > 0 {
				t.Fatalf("Unlend(%v) = %v", n, unlent)
			}
			some = some || len(n.Routines[f].Lent) > 0
		}
		if !some {
			alike++
		}
		if !some && text(unlent) != text(n) || text(rewritten(t, unlending, unlent)) != text(unlent) {
			t.Fatalf("Unlend(%v) = %v", n, unlent)
		}
	})
	if alike < 100 {
		t.Errorf("only %d normal forms lend nothing", alike)
	}
}

// What is lent is neither touched when it is freed, nor left.
func TestLentFormsCountExactly(t *testing.T) {
	eachLending(t, func(n, lent, unlent impl.Normal) {
		if counted, ok := impl.Count(lent); ok {
			countsExactly(t, counted)
			countsExactly(t, rewritten(t, specialize, counted))
		}
	})
}
