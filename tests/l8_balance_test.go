package tests

import (
	"testing"

	"loop.example/refcountml/impl"
)

// balancing is a body of a routine with some parameters, and whether it is balanced.
type balancing struct {
	params []int
	lent   []int
	b      impl.Block
	ok     bool
}

// open and reuse are counting steps.
func open(v int) impl.Step  { return st(impl.OpOpen, 0, v) }
func reuse(v int) impl.Step { return st(impl.OpReuse, 0, v) }

// con, if0 and match are steps that construct and choose.
func con(c int, args ...int) impl.Step               { return st(impl.OpCon, c, args...) }
func if0(arg int, kids ...impl.Block) impl.Step      { return choice(impl.OpIf, 0, arg, kids...) }
func match(t, arg int, kids ...impl.Block) impl.Step { return choice(impl.OpMatch, t, arg, kids...) }

// checkBalance tries bodies.
func checkBalance(t *testing.T, rules []balancing) {
	t.Helper()
	for _, r := range rules {
		n := ruleForm(r.params, r.lent, r.b)
		if !impl.ValidNormal(n) {
			t.Errorf("the body %s with the parameters %v is not valid", show(r.b), r.params)
			continue
		}
		if impl.BalancedRoutine(n, 3) != r.ok || impl.Balanced(n) {
			t.Errorf("BalancedRoutine of %s with the parameters %v and %v lent = %v", show(r.b), r.params, r.lent, !r.ok)
		}
		// The other routines of the rules are not balanced; with counts they are.
		whole := countedOf(t, plainOf(t, withBlock(n, 3, withoutCounts(r.b))))
		if impl.Balanced(withBlock(whole, 3, r.b)) != r.ok {
			t.Errorf("Balanced of %s with the parameters %v and %v lent = %v", show(r.b), r.params, r.lent, !r.ok)
		}
	}
}

func TestBalanceOfDupsAndDrops(t *testing.T) {
	one, two, three := []int{1}, []int{1, 1}, []int{1, 1, 0}
	checkBalance(t, []balancing{
		{one, nil, block(0), true}, {one, []int{0}, block(0), false}, {one, []int{0}, block(0, dup(0)), true}, {one, []int{0}, block(0, dup(0), dup(0)), false},
		{one, nil, block(0, dup(0)), false}, {one, nil, block(0, dup(0), drop(0)), true}, {one, nil, block(0, drop(0), dup(0)), false}, {one, nil, block(0, drop(0)), false},
		{one, []int{0}, block(0, drop(0)), false}, {one, []int{0}, block(0, drop(0), dup(0), dup(0)), false}, {one, []int{0}, block(0, dup(0), drop(0), dup(0)), true},
		{two, nil, block(0), false}, {two, nil, block(0, drop(1)), true}, {two, nil, block(1, drop(0)), true}, {two, nil, block(0, drop(0)), false}, {two, nil, block(0, drop(1), drop(1)), false},
		{two, []int{1}, block(0), true}, {two, []int{0}, block(1), true}, {two, []int{0}, block(0), false}, {two, []int{0}, block(0, dup(0), drop(1)), true},
		{three, nil, block(2, drop(0), drop(1)), true}, {three, nil, block(2, drop(1), drop(0)), true}, {three, nil, block(2), false}, {three, []int{0, 1}, block(2), true}, {three, nil, block(2, drop(0)), false},
		{three, nil, block(2, dup(1), drop(0), drop(1), drop(1)), true}, {three, nil, block(2, drop(1), drop(0), drop(1)), false},
		{one, nil, block(0, con(0)), false}, {one, nil, block(0, con(0), drop(1)), true}, {one, nil, block(1, con(0), drop(0)), true}, {one, nil, block(1, con(0)), false}, {one, nil, block(1, con(0), drop(1)), false},
		{one, nil, block(0, st(impl.OpInt, 4)), true}, {one, nil, block(0, st(impl.OpInt, 4), st(impl.OpPrint, 0, 1)), true},
	})
}

func TestBalanceOfArguments(t *testing.T) {
	one, two := []int{1}, []int{1, 1}
	checkBalance(t, []balancing{
		{one, nil, block(1, con(2, 0, 0)), false}, {one, nil, block(1, dup(0), con(2, 0, 0)), true}, {one, nil, block(1, dup(0), dup(0), con(2, 0, 0)), false}, {one, []int{0}, block(1, con(2, 0, 0)), false},
		{one, []int{0}, block(1, dup(0), con(2, 0, 0)), false}, {one, []int{0}, block(1, dup(0), dup(0), con(2, 0, 0)), true}, {one, nil, block(0, dup(0), con(2, 0, 0)), false},
		{[]int{0, 1}, nil, block(2, con(1, 0, 1)), true}, {[]int{0, 1}, []int{1}, block(2, con(1, 0, 1)), false},
		{two, nil, block(2, con(2, 0, 1)), true}, {two, nil, block(2, con(2, 0, 0)), false}, {two, nil, block(2, dup(0), con(2, 0, 0)), false},
		{two, nil, block(2, st(impl.OpCall, 2, 0, 1)), true}, {two, nil, block(2, st(impl.OpCall, 2, 1, 1)), false}, {two, []int{0}, block(2, st(impl.OpCall, 2, 0, 1)), false},
		{two, nil, block(2, st(impl.OpCall, 1, 0, 1)), false}, {two, nil, block(2, st(impl.OpCall, 1, 0, 1), drop(0)), true}, {two, nil, block(2, drop(0), st(impl.OpCall, 1, 0, 1)), false},
		{two, []int{0}, block(2, st(impl.OpCall, 1, 0, 1)), true}, {two, []int{1}, block(2, st(impl.OpCall, 1, 0, 1), drop(0)), false}, {two, []int{0}, block(2, st(impl.OpCall, 1, 1, 1)), false},
		{one, nil, block(1, st(impl.OpCall, 1, 0, 0)), false}, {one, nil, block(1, dup(0), st(impl.OpCall, 1, 0, 0), drop(0)), true}, {one, nil, block(1, dup(0), st(impl.OpCall, 1, 0, 0)), false}, {one, []int{0}, block(1, dup(0), st(impl.OpCall, 1, 0, 0)), true},
		{one, nil, block(1, st(impl.OpClose, 2, 0)), true}, {one, []int{0}, block(1, st(impl.OpClose, 2, 0)), false}, {one, nil, block(0, st(impl.OpClose, 2, 0)), false},
		{[]int{2, 1}, nil, block(2, st(impl.OpApply, 0, 0, 1)), true}, {[]int{2, 1}, []int{0}, block(2, st(impl.OpApply, 0, 0, 1)), false}, {[]int{2, 1}, []int{1}, block(2, st(impl.OpApply, 0, 0, 1)), false}, {[]int{2, 1}, nil, block(2, dup(0), st(impl.OpApply, 0, 0, 1)), false},
		{[]int{2, 1}, nil, block(2, dup(0), st(impl.OpApply, 0, 0, 1), drop(0)), true},
		{[]int{1}, nil, block(2, st(impl.OpInt, 1), st(impl.OpCall, 3, 0), drop(0)), false}, {[]int{1}, []int{0}, block(2, st(impl.OpInt, 1), st(impl.OpPrint, 0, 1)), true},
	})
	// A call that consumes nothing asks for what it lends, too.
	lending := []impl.Normal{
		{Decls: lists(), Routines: []impl.Routine{{Body: block(1, con(0), st(impl.OpCall, 1, 0), drop(0))}, {Params: []int{1}, Lent: []int{0}, Body: block(1, st(impl.OpInt, 1))}}},
		{Decls: lists(), Routines: []impl.Routine{{Body: block(1, con(0), drop(0), st(impl.OpCall, 1, 0))}, {Params: []int{1}, Lent: []int{0}, Body: block(1, st(impl.OpInt, 1))}}},
	}
	if !impl.Balanced(lending[0]) || impl.Balanced(lending[1]) || !impl.BalancedRoutine(lending[1], 1) || impl.BalancedRoutine(lending[1], 0) || !impl.ValidNormal(lending[1]) {
		t.Error("Balanced of a call that lends alone")
	}
}

func TestBalanceOfChoices(t *testing.T) {
	made := block(3, con(0))
	checkBalance(t, []balancing{
		{[]int{0, 1, 1}, nil, block(3, if0(0, block(1, drop(2)), block(2, drop(1)))), true}, {[]int{0, 1, 1}, nil, block(3, if0(0, block(1, drop(2)), block(1, drop(2)))), true},
		{[]int{0, 1, 1}, nil, block(3, if0(0, block(1), block(2))), false}, {[]int{0, 1, 1}, nil, block(3, if0(0, block(1), block(1)), drop(2)), true}, {[]int{0, 1, 1}, nil, block(3, if0(0, block(1), block(2)), drop(1)), false},
		{[]int{0, 1, 1}, nil, block(3, if0(0, block(1), block(2)), drop(2)), false}, {[]int{0, 1, 1}, nil, block(3, if0(0, block(1, drop(2)), block(2)), drop(1)), false}, {[]int{0, 1, 1}, nil, block(3, if0(0, block(1), block(2, drop(1)))), false},
		{[]int{0, 1, 1}, nil, block(2, if0(0, block(1, drop(2)), block(1, drop(2)))), false}, {[]int{0, 1, 1}, nil, block(2, if0(0, block(1), block(1)), drop(3)), true}, {[]int{0, 1, 1}, nil, block(2, if0(0, block(1), block(1))), false},
		{[]int{0, 1, 1}, nil, block(0, if0(0, block(0, drop(1)), block(0)), drop(2)), false}, {[]int{0, 1, 1}, nil, block(0, if0(0, block(0), block(0, drop(1))), drop(2)), false}, {[]int{0, 1, 1}, nil, block(0, if0(0, block(0, drop(1)), block(0, drop(1))), drop(2)), true},
		{[]int{0, 1, 1}, nil, block(0, if0(0, block(0, drop(1)), block(0, drop(2))), drop(2)), false}, {[]int{0, 1, 1}, nil, block(0, if0(0, block(0, drop(1)), block(0, drop(2))), drop(1)), false},
		{[]int{0, 1, 1}, nil, block(0, if0(0, block(0, dup(1)), block(0, dup(1))), drop(2), drop(1), drop(1)), true}, {[]int{0, 1, 1}, nil, block(0, if0(0, block(0, dup(1)), block(0, dup(1), dup(1))), drop(2), drop(1), drop(1)), false},
		{[]int{0, 1, 0}, []int{1}, block(3, if0(0, block(1, dup(1)), made)), true}, {[]int{0, 1, 0}, []int{1}, block(3, if0(0, block(1), made)), false}, {[]int{0, 1, 0}, []int{1}, block(3, if0(0, made, block(1))), false},
		{[]int{0, 1, 0}, nil, block(3, if0(0, block(1), block(3, con(0), drop(1)))), true}, {[]int{0, 1, 0}, nil, block(3, if0(0, block(1), made)), false}, {[]int{0, 1, 0}, nil, block(3, if0(0, block(1), made), drop(1)), false},
		{[]int{0, 1, 0}, nil, block(3, if0(0, block(1, con(0)), block(1))), false}, {[]int{0, 1, 0}, nil, block(3, if0(0, block(1, con(0), drop(3)), block(1))), true}, {[]int{0, 1, 0}, nil, block(3, if0(0, block(1, con(0), dup(3), drop(3)), block(1))), false},
		{[]int{0, 1, 0}, nil, block(3, if0(0, block(3, if0(0, block(1), block(1))), block(1))), true}, {[]int{0, 1, 0}, nil, block(3, if0(0, block(1, if0(0, block(1), block(1))), block(1))), false},
		// What a kid that is not the last one asks for counts, too.
		{[]int{0, 1, 0}, nil, block(0, if0(0, block(0, drop(1), drop(1), dup(1)), block(0)), drop(1)), false}, {[]int{0, 1, 0}, nil, block(0, if0(0, block(0), block(0, drop(1), dup(1))), drop(1)), false},
	})
}

func TestBalanceOfMatches(t *testing.T) {
	list := []int{1}
	lost := block(1, con(0), drop(0))
	checkBalance(t, []balancing{
		{list, nil, block(1, match(1, 0, block(0), block(2, dup(2), drop(0)))), true}, {list, nil, block(1, match(1, 0, block(0), block(2, drop(0), dup(2)))), false}, {list, nil, block(1, match(1, 0, block(0), block(2, drop(0)))), false},
		{list, nil, block(1, match(1, 0, block(0), block(2, dup(2)))), false}, {list, nil, block(1, match(1, 0, block(0), block(2, dup(2), dup(2), drop(0)))), false}, {list, nil, block(1, match(1, 0, block(0), block(0, dup(2)))), false},
		{list, nil, block(1, match(1, 0, block(0), block(0, dup(2), drop(2)))), true}, {list, nil, block(1, match(1, 0, block(0), block(0, drop(2)))), false}, {list, nil, block(1, match(1, 0, lost, block(0))), true},
		{list, []int{0}, block(1, match(1, 0, block(0, dup(0)), block(2, dup(2)))), true}, {list, []int{0}, block(1, match(1, 0, block(0, dup(0)), block(2))), false}, {list, []int{0}, block(1, match(1, 0, block(0, dup(0)), block(0, dup(0)))), true},
		{list, nil, block(1, drop(0), match(1, 0, block(0), block(0))), false}, {list, nil, block(1, con(0), drop(0), match(1, 0, block(1), block(1))), false}, {list, nil, block(0, match(1, 0, block(0, dup(0)), block(2, dup(2))), drop(1)), true},
		{list, nil, block(0, drop(0), match(1, 0, block(1, st(impl.OpInt, 1)), block(1))), false}, {list, nil, block(1, dup(0), drop(0), drop(0), match(1, 0, block(1, st(impl.OpInt, 1)), block(1))), false},
		// Fields of fields are alive as long as the outermost value is.
		{list, nil, block(1, match(1, 0, block(0), block(3, match(1, 2, block(0), block(4, dup(4), drop(0)))))), true}, {list, nil, block(1, match(1, 0, block(0), block(3, match(1, 2, block(0), block(4, drop(0), dup(4)))))), false},
		{list, nil, block(1, match(1, 0, block(0), block(3, dup(2), drop(0), match(1, 2, block(2), block(4, dup(4), drop(2)))))), true}, {list, nil, block(1, match(1, 0, block(0), block(3, drop(0), match(1, 2, block(2), block(4, dup(4), drop(2)))))), false},
		{list, []int{0}, block(1, match(1, 0, block(0, dup(0)), block(3, match(1, 2, block(0, dup(0)), block(4, dup(4)))))), true}, {list, nil, block(1, match(1, 0, block(0), block(3, dup(2), drop(0), match(1, 2, block(2), block(4, drop(2), dup(4)))))), false},
		// After the arm its fields are not there, and what has their numbers is not alive by them.
		{list, nil, block(2, match(1, 0, block(0, dup(0)), block(0, dup(0))), con(0), drop(2), dup(2), drop(0), drop(1)), false},
		{list, nil, block(0, match(1, 0, block(1, st(impl.OpInt, 1)), block(4, con(0), drop(3), dup(3), st(impl.OpInt, 1)))), false},
	})
}

func TestBalanceOfOpens(t *testing.T) {
	list, pair := []int{1}, []int{3}
	checkBalance(t, []balancing{
		{list, nil, block(1, match(1, 0, block(0), block(2, open(0)))), true}, {list, nil, block(1, match(1, 0, block(1, open(0), con(0)), block(2, open(0)))), true}, {list, nil, block(1, match(1, 0, block(0), block(0, open(0)))), false},
		{list, nil, block(1, match(1, 0, block(0), block(2, dup(2), open(0)))), false}, {list, nil, block(1, match(1, 0, block(0), block(2, dup(2), open(0), drop(2)))), true}, {list, nil, block(1, match(1, 0, block(0), block(2, open(0), open(0)))), false},
		{list, nil, block(1, match(1, 0, block(0), block(2, dup(0), open(0), drop(0)))), true}, {list, nil, block(1, match(1, 0, block(0), block(2, dup(0), open(0), open(0), drop(2)))), true}, {list, nil, block(1, match(1, 0, block(0), block(2, dup(0), open(0), open(0)))), false},
		{list, []int{0}, block(1, match(1, 0, block(0, dup(0)), block(2, open(0)))), false}, {list, []int{0}, block(1, match(1, 0, block(0, dup(0)), block(2, dup(0), open(0)))), true}, {list, nil, block(1, match(1, 0, block(0), block(2, drop(0), open(0)))), false},
		{list, nil, block(0, open(0), con(0)), false}, {list, nil, block(1, open(0), con(0)), false}, {list, nil, block(1, match(1, 0, block(0, dup(0)), block(0, dup(0))), open(0)), false}, {list, nil, block(1, match(1, 0, block(0, dup(0)), block(0, dup(0))), drop(0)), true},
		// The arm must be one of the variable, around the place, and the innermost one counts.
		{[]int{1, 1}, nil, block(2, match(1, 0, block(0, drop(1)), block(3, open(1), drop(0)))), false}, {list, nil, block(1, match(1, 0, block(0), block(2, open(2), drop(0)))), false}, {list, nil, block(1, match(1, 0, block(0), block(2, dup(2), open(2), drop(0)))), false},
		{list, nil, block(1, match(1, 0, block(0), block(3, match(1, 0, block(0), block(4, open(0)))))), true}, {list, nil, block(1, match(1, 0, block(0), block(3, match(1, 0, block(0), block(2, open(0)))))), false}, {list, nil, block(1, match(1, 0, block(0), block(3, match(1, 0, block(2, open(0)), block(4, open(0)))))), false},
		{list, nil, block(1, match(1, 0, block(0), block(3, match(1, 2, block(2, open(0)), block(2, open(0)))))), true}, {list, nil, block(1, match(1, 0, block(0), block(3, if0(1, block(2, open(0)), block(2, dup(2), drop(0)))))), true},
		{list, nil, block(1, match(1, 0, block(0), block(3, open(0), match(1, 2, block(2), block(4, open(2)))))), true}, {list, nil, block(1, match(1, 0, block(0), block(3, match(1, 0, block(0, dup(0)), block(0, dup(0))), open(0), drop(2)))), true},
		// Each field that is no integer is owned then, and no integer is.
		{pair, nil, block(1, match(3, 0, block(1, open(0)), block(1, open(0)), block(3, open(0), con(0)))), false}, {pair, nil, block(1, match(3, 0, block(1, open(0), drop(2)), block(1, open(0), drop(2), drop(3)), block(3, open(0), con(0), drop(2)))), true},
		{pair, nil, block(1, match(3, 0, block(3, open(0), st(impl.OpCall, 2, 1, 2)), block(5, open(0), con(3, 1, 2, 3), drop(4), con(0), dup(5), drop(5)), block(4, con(0), open(0), st(impl.OpApply, 0, 2, 3)))), true},
	})
}

func TestBalanceOfReuse(t *testing.T) {
	list, both := []int{1}, []int{4, 0}
	two := []impl.Block{block(2, reuse(0)), block(3, reuse(0))}
	checkBalance(t, []balancing{
		{list, nil, block(1, match(1, 0, block(0), block(3, reuse(0), into(con(1, 1, 2), 1)))), true}, {list, nil, block(1, match(1, 0, block(0), block(3, reuse(0), con(1, 1, 2)))), false}, {list, nil, block(1, match(1, 0, block(0), block(3, open(0), into(con(1, 1, 2), 1)))), false},
		{list, nil, block(1, match(1, 0, block(0), block(3, into(con(1, 1, 2), 1), reuse(0)))), false}, {list, nil, block(1, match(1, 0, block(0), block(3, reuse(0), into(con(0), 1), drop(2)))), false}, {list, nil, block(1, match(1, 0, block(0), block(3, reuse(0), into(con(1, 1, 2), 3)))), false},
		{list, nil, block(1, match(1, 0, block(1, reuse(0), into(con(0), 1)), block(2, open(0)))), true}, {list, nil, block(1, match(1, 0, block(1, reuse(0), con(0)), block(2, open(0)))), false}, {list, nil, block(1, match(1, 0, block(0), block(4, reuse(0), into(con(1, 1, 2), 1), into(con(1, 1, 3), 1)))), false},
		{list, []int{0}, block(1, match(1, 0, block(0, dup(0)), block(3, reuse(0), into(con(1, 1, 2), 1)))), false}, {list, nil, block(1, reuse(0), con(0)), false}, {list, nil, block(1, match(1, 0, block(0), block(3, reuse(0), into(con(1, 1, 2), 1)))), true},
		{list, nil, block(1, match(1, 0, block(0), block(4, dup(0), reuse(0), reuse(0), drop(2), into(con(1, 1, 2), 1), into(con(1, 1, 3), 1)))), false},
		{list, nil, block(1, match(1, 0, block(0), block(3, dup(0), reuse(0), reuse(0), drop(2), into(con(1, 1, 2), 1)))), false}, {list, nil, block(1, match(1, 0, block(0), block(3, dup(0), reuse(0), open(0), drop(2), into(con(1, 1, 2), 1)))), true},
		{list, nil, block(1, match(1, 0, block(0), block(4, dup(0), reuse(0), into(con(1, 1, 2), 1), reuse(0), drop(3), into(con(1, 1, 2), 1)))), true},
		{list, nil, block(1, match(1, 0, block(0), block(3, match(1, 0, block(2, reuse(0)), block(2, open(0)))))), false},
		// A cell is kept beyond the blocks, where all of them keep the same.
		{both, nil, block(4, match(4, 0, two...), st(impl.OpInt, 1), into(con(1, 3, 2), 1)), true}, {both, nil, block(4, match(4, 0, two...), st(impl.OpInt, 1), con(1, 3, 2)), false}, {both, nil, block(2, match(4, 0, two...)), false},
		{both, nil, block(3, match(4, 0, block(2, open(0)), block(3, reuse(0))), into(con(2, 2, 2), 1)), false}, {both, nil, block(3, match(4, 0, block(2, reuse(0)), block(3, open(0))), dup(2), con(2, 2, 2)), false},
		{both, nil, block(3, match(4, 0, two...), dup(2), into(con(2, 2, 2), 1)), true}, {both, nil, block(3, match(4, 0, two...), dup(2), dup(2), into(con(3, 2, 2, 2), 1)), false}, {both, nil, block(3, match(4, 0, two...), into(con(0), 1), drop(2)), false},
		{both, nil, block(3, match(4, 0, two...), if0(1, block(3, dup(2), into(con(2, 2, 2), 1)), block(3, dup(2), into(con(2, 2, 2), 1)))), true}, {both, nil, block(3, match(4, 0, two...), if0(1, block(3, dup(2), into(con(2, 2, 2), 1)), block(3, dup(2), con(2, 2, 2)))), false},
		{both, nil, block(3, match(4, 0, two...), if0(1, block(3, dup(2), con(2, 2, 2)), block(3, dup(2), into(con(2, 2, 2), 1)))), false},
		// No cell of a variable of a block is kept at its end.
		{list, nil, block(1, match(1, 0, block(0), block(3, dup(2), drop(0), match(1, 2, block(2, dup(2), drop(2)), block(5, reuse(2), into(con(1, 3, 4), 3)))))), true},
		{[]int{4}, nil, block(1, match(4, 0, block(1, open(0)), block(2, open(0)))), true}, {[]int{1, 4}, nil, block(2, match(1, 0, block(2, match(4, 1, block(2, reuse(1)), block(3, reuse(1)))), block(4, match(4, 1, block(4, reuse(1)), block(5, reuse(1)))))), false},
		{[]int{1}, nil, block(1, con(0), st(impl.OpInt, 1), con(5, 1, 2), drop(0), match(4, 3, block(4, reuse(3)), block(5, reuse(3)))), false},
		{[]int{0, 1}, nil, block(2, if0(0, block(3, con(5, 1, 0), match(4, 2, block(3, reuse(2)), block(4, reuse(2)))), block(1))), false},
		{[]int{0, 1}, nil, block(2, if0(0, block(4, con(5, 1, 0), match(4, 2, block(3, reuse(2)), block(4, reuse(2))), into(con(1, 0, 3), 3)), block(1))), true},
	})
}

// after is what is owned and alive after the first steps of a body.
type after struct {
	b     impl.Block
	k     int
	owned []int
	alive []int
}

func TestOwnedAndAliveAfterSteps(t *testing.T) {
	b := block(4, dup(1), con(0), drop(0), dup(2), drop(1), con(2, 2, 3), drop(1), dup(2))
	arms := block(3, match(1, 0, block(0, dup(0), dup(1)), block(4, dup(4), dup(1))), drop(0), dup(2))
	broken := block(0, dup(0), drop(0), drop(0), drop(0), dup(0), dup(0))
	leaking := block(3, match(1, 0, block(0), block(0, dup(4))), drop(1))
	numbers := block(3, st(impl.OpInt, 1), st(impl.OpPrint, 0, 3))
	for _, c := range []after{
		{b, 0, []int{1, 1, 0}, []int{0, 1, 2}}, {b, 1, []int{1, 2, 0}, []int{0, 1, 2}}, {b, 2, []int{1, 2, 0, 1}, []int{0, 1, 2, 3}}, {b, 3, []int{0, 2, 0, 1}, []int{1, 2, 3}},
		{b, 4, []int{0, 2, 1, 1}, []int{1, 2, 3}}, {b, 5, []int{0, 1, 1, 1}, []int{1, 2, 3}}, {b, 6, []int{0, 1, 0, 0, 1}, []int{1, 2, 4}}, {b, 7, []int{0, 0, 0, 0, 1}, []int{2, 4}}, {b, 8, []int{0, 0, 1, 0, 1}, []int{2, 4}},
		{b, 9, nil, nil}, {b, -1, nil, nil}, {b, 1 << 62, nil, nil}, {b, -1 << 63, nil, nil},
		{arms, 0, []int{1, 1, 0}, []int{0, 1, 2}}, {arms, 1, []int{1, 2, 0, 1}, []int{0, 1, 2, 3}}, {arms, 2, []int{0, 2, 0, 1}, []int{1, 2, 3}}, {arms, 3, []int{0, 2, 1, 1}, []int{1, 2, 3}}, {arms, 4, nil, nil},
		{broken, 1, []int{2, 1, 0}, []int{0, 1, 2}}, {broken, 3, []int{0, 1, 0}, []int{1, 2}}, {broken, 4, nil, nil}, {broken, 5, nil, nil}, {broken, 6, nil, nil},
		{leaking, 0, []int{1, 1, 0}, []int{0, 1, 2}}, {leaking, 1, nil, nil}, {leaking, 2, nil, nil},
		{numbers, 0, []int{1, 1, 0}, []int{0, 1, 2}}, {numbers, 1, []int{1, 1, 0, 0}, []int{0, 1, 2}}, {numbers, 2, []int{1, 1, 0, 0, 0}, []int{0, 1, 2}},
		{block(0, dup(2), dup(2), drop(0), drop(2)), 4, []int{0, 1, 1}, []int{1, 2}}, {block(0), 0, []int{1, 1, 0}, []int{0, 1, 2}},
	} {
		n := ruleForm([]int{1, 1, 1}, []int{2}, c.b)
		if !impl.ValidNormal(n) {
			t.Fatalf("the body %s is not valid", show(c.b))
		}
		if got := impl.OwnedAfter(n, 3, c.k); !same(got, c.owned...) {
			t.Errorf("OwnedAfter %d steps of %s = %v, want %v", c.k, show(c.b), got, c.owned)
		}
		if got := impl.AliveAfter(n, 3, c.k); !same(got, c.alive...) {
			t.Errorf("AliveAfter %d steps of %s = %v, want %v", c.k, show(c.b), got, c.alive)
		}
	}
	n := ruleForm([]int{0, 4, 2}, []int{1}, block(0, st(impl.OpInt, 5)))
	if !same(impl.OwnedAfter(n, 3, 0), 0, 0, 1) || !same(impl.OwnedAfter(n, 3, 1), 0, 0, 1, 0) || !same(impl.AliveAfter(n, 3, 1), 1, 2) || len(impl.OwnedAfter(n, 0, 0)) != 0 || !same(impl.OwnedAfter(n, 0, 1), 0) || len(impl.AliveAfter(n, 0, 1)) != 0 {
		t.Error("OwnedAfter or AliveAfter of integers")
	}
}

func TestBalanceOfTheExample(t *testing.T) {
	n := normalOf(t, sumProgram())
	c := countedOf(t, n)
	if !impl.Balanced(c) || impl.Balanced(n) || !impl.BalancedRoutine(n, 0) || impl.BalancedRoutine(n, 1) || !impl.BalancedRoutine(c, 0) || !impl.BalancedRoutine(c, 1) {
		t.Error("Balanced")
	}
	if !same(impl.OwnedAfter(c, 1, 0), 1) || !same(impl.OwnedAfter(c, 1, 1), 0, 0) || !same(impl.OwnedAfter(c, 0, 5), 0, 0, 0, 0, 1) || !same(impl.AliveAfter(c, 0, 3), 2) || !same(impl.AliveAfter(c, 0, 4), 3) {
		t.Error("OwnedAfter or AliveAfter")
	}
	open, reuse := openedOf(c), keptOf(openedOf(counting10()))
	if !impl.Balanced(open) || !impl.Balanced(reuse) || !same(impl.CountsOf(open), 0, 1, 1, 0) || !same(impl.CountsOf(reuse), 0, 3, 1, 1) {
		t.Errorf("what is taken apart or reused is not balanced, or has the counts %v and %v", impl.CountsOf(open), impl.CountsOf(reuse))
	}
}

// counting10 has precise counts of a function that adds 10 to each number of a list.
func counting10() impl.Normal {
	again := ex(impl.OpCon, 1, add(v(1), num(10)), ex(impl.OpCall, 1, v(2)))
	n, _ := impl.Normalize(impl.Program{Decls: lists(), Funcs: []impl.Func{{Body: ex(impl.OpMatch, 1, ex(impl.OpCall, 1, list(3)), num(0), v(0))}, {Params: []int{1}, Result: 1, Body: ex(impl.OpMatch, 1, v(0), list(), again)}}})
	out, _ := impl.Count(n)
	return out
}

func TestBalanceOfInvalidArguments(t *testing.T) {
	n := countedOf(t, normalOf(t, sumProgram()))
	for _, f := range append(oddNumbers(), 2, 3) {
		there := f == 0 || f == 1
		if impl.BalancedRoutine(n, f) != there {
			t.Errorf("BalancedRoutine of the routine %d = %v", f, !there)
		}
		for _, k := range oddNumbers() {
			fits := there && k >= 0 && k <= len(n.Routines[f].Body.Steps)
			if owned, alive := impl.OwnedAfter(n, f, k), impl.AliveAfter(n, f, k); !fits && (len(owned) != 0 || len(alive) != 0) || fits && f+k > 0 && len(owned) == 0 {
				t.Errorf("OwnedAfter or AliveAfter %d steps of the routine %d = %v and %v", k, f, owned, alive)
			}
		}
	}
	for _, bad := range notNormals() {
		for f := -1; f <= 4; f++ {
			if impl.Balanced(bad) || impl.BalancedRoutine(bad, f) || len(impl.OwnedAfter(bad, f, 0)) != 0 || len(impl.AliveAfter(bad, f, 0)) != 0 || len(impl.OwnedAfter(bad, f, 1)) != 0 {
				t.Fatalf("a normal form that is not valid is balanced: %s", text(bad)[:20])
			}
		}
	}
}

func TestBalanceAgreesWithTheSecondCheck(t *testing.T) {
	balanced := 0
	all := variants()
	for i, x := range all {
		want := balanceMeaning(x.n, x.f)
		if impl.BalancedRoutine(x.n, x.f) != want {
			t.Fatalf("BalancedRoutine(%v, %d) = %v", x.n, x.f, !want)
		}
		if want {
			balanced++
		}
		for k := i % 5; k <= len(x.n.Routines[x.f].Body.Steps); k += 5 {
			owned, alive := ownedMeaning(x.n, x.f, k)
			if got := impl.OwnedAfter(x.n, x.f, k); !same(got, owned...) {
				t.Fatalf("OwnedAfter(%v, %d, %d) = %v, want %v", x.n, x.f, k, got, owned)
			}
			if got := impl.AliveAfter(x.n, x.f, k); !same(got, alive...) {
				t.Fatalf("AliveAfter(%v, %d, %d) = %v, want %v", x.n, x.f, k, got, alive)
			}
		}
	}
	if balanced < 1000 || len(all)-balanced < 1000 {
		t.Errorf("%d of %d variants are balanced", balanced, len(all))
	}
}

// countsExactly fails if a balanced normal form does something else when its counts are kept, touches what is freed, or leaves something.
func countsExactly(t *testing.T, n impl.Normal) {
	t.Helper()
	for _, most := range []int{0, 1, 3, 9, 40} {
		o, wrong := countedMeaning(n, most)
		if want := executed(t, n, most); wrong != "" || text(o) != text(want) {
			t.Fatalf("%v with %d calls: %s, %v, want %v", n, most, wrong, o, want)
		}
	}
}

func TestBalancedFormsCountExactly(t *testing.T) {
	for _, n := range balancedForms() {
		if !impl.Balanced(n) {
			t.Fatalf("Balanced(%v) = false", n)
		}
		countsExactly(t, n)
	}
	for _, x := range variants() {
		if impl.Balanced(x.n) {
			countsExactly(t, x.n)
		}
	}
}

func TestP76AllRoutinesAreBalanced(t *testing.T) {
	balanced, not := 0, 0
	for _, x := range variants() {
		all := true
		for f := range x.n.Routines {
			all = all && impl.BalancedRoutine(x.n, f)
		}
		if impl.Balanced(x.n) != all {
			t.Fatalf("Balanced(%v) = %v", x.n, !all)
		}
		if all {
			balanced++
		} else {
			not++
		}
	}
	if balanced < 500 || not < 500 {
		t.Errorf("%d normal forms are balanced, and %d not", balanced, not)
	}
}

// withSteps returns a normal form with steps in the place of those of a body.
func withSteps(n impl.Normal, f int, steps []impl.Step) impl.Normal {
	return withBlock(n, f, impl.Block{Steps: steps, Result: n.Routines[f].Body.Result})
}

func TestP77OneOwnerTooManyIsNoticed(t *testing.T) {
	tried := 0
	for _, n := range balancedForms() {
		for f, r := range n.Routines {
			for _, x := range impl.AliveAfter(n, f, len(r.Body.Steps)) {
				tried++
				if other := withSteps(n, f, withStep(r.Body.Steps, len(r.Body.Steps), dup(x))); impl.Balanced(other) || impl.BalancedRoutine(other, f) || !impl.ValidNormal(other) {
					t.Fatalf("Balanced(%v) = true with an OpDup step of %d more in the body %d", n, x, f)
				}
			}
		}
	}
	if tried < 500 {
		t.Errorf("only %d are alive at the end", tried)
	}
}

func TestP78OneOwnerTooFewIsNoticed(t *testing.T) {
	tried := 0
	for _, n := range balancedForms() {
		for f, r := range n.Routines {
			for x, of := range r.Params {
				if of == 0 {
					continue
				}
				tried++
				if other := withSteps(n, f, withStep(r.Body.Steps, 0, drop(x))); impl.Balanced(other) || impl.BalancedRoutine(other, f) || !impl.ValidNormal(other) {
					t.Fatalf("Balanced(%v) = true with an OpDrop step of %d more in the body %d", n, x, f)
				}
			}
		}
	}
	if tried < 500 {
		t.Errorf("there are only %d parameters", tried)
	}
}

func TestP79BalanceIsAMatterOfEachRoutine(t *testing.T) {
	for i, x := range variants() {
		if i%4 > 0 {
			continue
		}
		for f := range x.n.Routines {
			want := impl.BalancedRoutine(x.n, f)
			for other, r := range x.n.Routines {
				if other != f && impl.BalancedRoutine(withBlock(x.n, other, withoutCounts(r.Body)), f) != want {
					t.Fatalf("BalancedRoutine(%v, %d) is other without the counts of %d", x.n, f, other)
				}
			}
		}
	}
}

func TestP80OwnedParametersAreOwnedOnceAtFirst(t *testing.T) {
	for _, n := range append(normals(), balancedForms()...) {
		for f, r := range n.Routines {
			var want []int
			for x, of := range r.Params {
				one := 0
				if of != 0 && !has(r.Lent, x) {
					one = 1
				}
				want = append(want, one)
			}
			if got := impl.OwnedAfter(n, f, 0); !same(got, want...) {
				t.Fatalf("OwnedAfter(%v, %d, 0) = %v, want %v", n, f, got, want)
			}
		}
	}
}

func TestP81AtTheEndOnlyTheResultIsOwned(t *testing.T) {
	for _, n := range balancedForms() {
		for f, r := range n.Routines {
			want := make([]int, len(r.Params)+defines(r.Body))
			if r.Result != 0 {
				want[r.Body.Result] = 1
			}
			if got := impl.OwnedAfter(n, f, len(r.Body.Steps)); !same(got, want...) {
				t.Fatalf("OwnedAfter(%v, %d, %d) = %v, want %v", n, f, len(r.Body.Steps), got, want)
			}
		}
	}
}

// eachPlace calls a function for each place in the bodies of the balanced normal forms.
func eachPlace(check func(n impl.Normal, f int, k int)) {
	for _, n := range balancedForms() {
		for f, r := range n.Routines {
			for k := 0; k <= len(r.Body.Steps); k++ {
				check(n, f, k)
			}
		}
	}
}

func TestP82DupsAndDropsChangeOneNumber(t *testing.T) {
	seen := [2]int{}
	eachPlace(func(n impl.Normal, f int, k int) {
		steps := n.Routines[f].Body.Steps
		if k == len(steps) || steps[k].Op != impl.OpDup && steps[k].Op != impl.OpDrop {
			return
		}
		want := impl.OwnedAfter(n, f, k)
		if steps[k].Op == impl.OpDup {
			want[steps[k].Args[0]]++
		} else {
			want[steps[k].Args[0]]--
		}
		if got := impl.OwnedAfter(n, f, k+1); !same(got, want...) {
			t.Fatalf("OwnedAfter(%v, %d, %d) = %v, want %v", n, f, k+1, got, want)
		}
		seen[steps[k].Op%2]++
	})
	if seen[0] < 100 || seen[1] < 100 {
		t.Errorf("there are %v dups and drops", seen)
	}
}

func TestP83OwnedAndLentVariablesAreAlive(t *testing.T) {
	eachPlace(func(n impl.Normal, f int, k int) {
		alive := impl.AliveAfter(n, f, k)
		for x, many := range impl.OwnedAfter(n, f, k) {
			if has(alive, x) != (many > 0 || has(n.Routines[f].Lent, x)) {
				t.Fatalf("AliveAfter(%v, %d, %d) = %v", n, f, k, alive)
			}
		}
		if !partOf(n.Routines[f].Lent, alive) || !ascends(alive) {
			t.Fatalf("AliveAfter(%v, %d, %d) = %v", n, f, k, alive)
		}
	})
}

func TestP84WhatIsUsedLaterIsAlive(t *testing.T) {
	eachPlace(func(n impl.Normal, f int, k int) {
		types := contextAt(n, f, k).types
		alive := impl.AliveAfter(n, f, k)
		for _, x := range impl.UsedFrom(n.Routines[f].Body, len(types), k) {
			if types[x] != 0 && !has(alive, x) {
				t.Fatalf("AliveAfter(%v, %d, %d) = %v, and %d is used", n, f, k, alive, x)
			}
		}
	})
}
