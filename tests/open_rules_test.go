package tests

import (
	"testing"

	"loop.example/refcountml/impl"
)

// rewriting is a balanced body of a routine with some parameters, and what is made of it.
type rewriting struct {
	params []int
	lent   []int
	b      impl.Block
	want   string
}

// ruled returns a normal form in which a body is that of the routine 3 (ruleForm), and the others have precise counts.
// The routine 0 calls the routine 3 twice with the same values, which are shared only at the first time.
func ruled(params []int, lent []int, b impl.Block) impl.Normal {
	n := ruleForm(params, lent, b)
	first := &draft{}
	var args, own []int
	for v, t := range params {
		args = append(args, given(first, t))
		own = append(own, v)
	}
	first.add(call(3, args...), n.Routines[3].Result)
	first.add(call(3, args...), n.Routines[3].Result)
	result := given(first, 0)
	n.Routines[0].Body = block(result, first.steps...)
	n.Routines[3].Body = block(len(params), call(3, own...))
	out, _ := impl.Count(n)
	out.Routines[3].Body = b
	return out
}

// given adds steps that make a value of a type of ruleForm, and returns its variable.
func given(d *draft, t int) int {
	number := d.add(one, 0)
	if t == 0 {
		return number
	}
	tail := d.add(con(0), 1)
	list := d.add(con(1, number, tail), 1)
	switch t {
	case 2:
		return d.add(enclose(2, list), t)
	case 3:
		return d.add(con(3, list, tail, list), t)
	case 4:
		return d.add(con(5, list, number), t)
	}
	return d.add(con(1, number, list), t)
}

// balancedRule returns the same, which must be balanced.
func balancedRule(t *testing.T, params []int, lent []int, b impl.Block) impl.Normal {
	t.Helper()
	out := ruled(params, lent, b)
	if !impl.Balanced(out) {
		t.Fatalf("the body %s with the parameters %v and %v lent is not balanced", show(b), params, lent)
	}
	return out
}

// ruledForms returns the normal forms of all the bodies that show rules.
func ruledForms() []impl.Normal {
	var out []impl.Normal
	for _, c := range append(append(opens(), expands()...), reuses()...) {
		out = append(out, ruled(c.params, c.lent, c.b))
	}
	return out
}

// one is a step that defines the integer 1.
var one = st(impl.OpInt, 1)

// listArms returns a body that matches a list, the variable 0, and returns it if it is empty, and otherwise makes some steps and returns its tail.
func listArms(steps ...impl.Step) impl.Block {
	return block(1, match(1, 0, block(0), block(2, steps...)))
}

// tailArm returns a body like that of listArms, but with a variable that is returned if the list is not empty.
func tailArm(result int, steps ...impl.Step) impl.Block {
	return block(1, match(1, 0, block(0), block(result, steps...)))
}

// opens returns bodies that show the rules of Specialize.
func opens() []rewriting {
	list, two, choices, triple := []int{1}, []int{1, 1}, []int{0, 1}, []int{3}
	return []rewriting{
		{list, nil, listArms(dup(2), drop(0)), "8:1[0]{> 0}{16:0[0] > 2} > 1"},
		{list, nil, listArms(dup(2), drop(0), one), "8:1[0]{> 0}{16:0[0] 0:1[] > 2} > 1"},
		// Fields that are dropped, or not used at all, and constructors without fields.
		{list, nil, block(1, match(1, 0, block(1, drop(0), one), block(1, drop(0)))), "8:1[0]{15:0[0] 0:1[] > 1}{16:0[0] 15:0[2] > 1} > 1"},
		{list, nil, block(1, match(1, 0, block(0), block(3, dup(2), drop(2), drop(0), con(0)))), "8:1[0]{> 0}{16:0[0] 15:0[2] 6:0[] > 3} > 1"},
		{list, nil, block(1, match(1, 0, block(0), block(3, dup(2), drop(0), drop(2), con(0)))), "8:1[0]{> 0}{16:0[0] 15:0[2] 6:0[] > 3} > 1"},
		// More than one OpDup step of a field.
		{list, nil, listArms(dup(2), dup(2), drop(0), drop(2)), "8:1[0]{> 0}{14:0[2] 16:0[0] 15:0[2] > 2} > 1"},
		{list, nil, listArms(dup(2), drop(2), dup(2), drop(0)), "8:1[0]{> 0}{14:0[2] 16:0[0] 15:0[2] > 2} > 1"},
		// Several fields.
		{triple, nil, block(1, match(3, 0, block(1, dup(2), dup(1), drop(0), drop(2)), block(2, dup(2), drop(0)), block(3, drop(0), con(0)))), "8:3[0]{16:0[0] 15:0[2] > 1}{16:0[0] 15:0[1] 15:0[3] > 2}{16:0[0] 15:0[2] 6:0[] > 3} > 1"},
		{triple, nil, block(1, match(3, 0, block(3, drop(0), one), block(4, dup(3), dup(1), dup(3), drop(0), one, drop(3), drop(1), drop(3)), block(3, drop(0), one))), "8:3[0]{16:0[0] 15:0[1] 15:0[2] 0:1[] > 3}{14:0[3] 16:0[0] 15:0[2] 0:1[] 15:0[3] 15:0[1] 15:0[3] > 4}{16:0[0] 15:0[2] 0:1[] > 3} > 1"},
		// More than one OpDup or OpDrop step of the variable itself, which may be lent.
		{list, nil, block(1, match(1, 0, block(0), block(0, dup(0), drop(0)))), "8:1[0]{> 0}{14:0[0] 16:0[0] 15:0[2] > 0} > 1"},
		{list, nil, listArms(dup(0), drop(0), dup(2), drop(0)), "8:1[0]{> 0}{14:0[0] 16:0[0] 15:0[0] > 2} > 1"},
		{list, []int{0}, block(1, match(1, 0, block(0, dup(0)), block(2, dup(2), dup(0), drop(0)))), "8:1[0]{14:0[0] > 0}{14:0[0] 16:0[0] > 2} > 1"},
		{list, []int{0}, block(1, match(1, 0, block(0, dup(0)), block(2, dup(2)))), "8:1[0]{14:0[0] > 0}{14:0[2] > 2} > 1"},
		// Counting steps of others.
		{two, nil, block(2, match(1, 0, block(0, drop(1)), block(3, drop(1), dup(3), drop(0)))), "8:1[0]{15:0[1] > 0}{16:0[0] 15:0[1] > 3} > 2"},
		{two, nil, block(2, match(1, 0, block(0, drop(1)), block(3, dup(1), drop(1), dup(3), drop(0), drop(1)))), "8:1[0]{15:0[1] > 0}{14:0[1] 16:0[0] 15:0[1] 15:0[1] > 3} > 2"},
		{two, nil, block(2, match(1, 0, block(1, drop(0)), block(1, drop(0)))), "8:1[0]{15:0[0] > 1}{16:0[0] 15:0[3] > 1} > 2"},
		{two, nil, block(2, match(1, 1, block(0, drop(1)), block(3, dup(3), drop(0), drop(1)))), "8:1[1]{15:0[1] > 0}{16:0[1] 15:0[0] > 3} > 2"},
		{two, nil, block(2, match(1, 1, block(1, drop(0)), block(1, drop(0)))), "8:1[1]{15:0[0] > 1}{15:0[0] > 1} > 2"},
		// OpDrop steps that come after another step.
		{list, nil, listArms(dup(2), one, drop(0)), "8:1[0]{> 0}{14:0[2] 0:1[] 15:0[0] > 2} > 1"},
		{list, nil, listArms(one, dup(2), drop(0)), "8:1[0]{> 0}{0:1[] 14:0[2] 15:0[0] > 2} > 1"},
		{list, nil, listArms(dup(0), one, drop(0), dup(2), drop(0)), "8:1[0]{> 0}{14:0[0] 0:1[] 15:0[0] 14:0[2] 15:0[0] > 2} > 1"},
		{list, nil, block(1, match(1, 0, block(0), block(3, dup(0), dup(2), drop(0), con(1, 1, 2), drop(0)))), "8:1[0]{> 0}{14:0[0] 16:0[0] 6:1[1 2] 15:0[0] > 3} > 1"},
		{list, nil, block(1, match(1, 0, block(0), block(3, if0(1, block(2, dup(2), drop(0)), block(0))))), "8:1[0]{> 0}{7:0[1]{14:0[2] 15:0[0] > 2}{> 0} > 3} > 1"},
		// OpOpen and OpReuse steps before and after other counting steps.
		{list, nil, listArms(open(0)), "8:1[0]{> 0}{16:0[0] > 2} > 1"},
		{list, nil, listArms(dup(0), open(0), drop(0)), "8:1[0]{> 0}{14:0[0] 16:0[0] 15:0[0] > 2} > 1"},
		{list, nil, listArms(dup(0), drop(0), open(0)), "8:1[0]{> 0}{14:0[0] 16:0[0] 15:0[2] 16:0[0] > 2} > 1"},
		{list, nil, listArms(dup(2), dup(0), drop(0), open(0), drop(2)), "8:1[0]{> 0}{14:0[0] 16:0[0] 16:0[0] 15:0[2] > 2} > 1"},
		{list, nil, block(1, match(1, 0, block(0), block(3, dup(0), dup(2), drop(0), reuse(0), into(con(1, 1, 2), 1), drop(2)))), "8:1[0]{> 0}{14:0[0] 16:0[0] 17:0[0] 6:1into1[1 2] 15:0[2] > 3} > 1"},
		{list, nil, block(1, match(1, 0, block(0), block(3, dup(0), reuse(0), drop(0), into(con(1, 1, 2), 1)))), "8:1[0]{> 0}{14:0[0] 17:0[0] 15:0[0] 6:1into1[1 2] > 3} > 1"},
		// Arms inside of other blocks.
		{choices, nil, block(2, if0(0, block(2, match(1, 1, block(1), block(3, dup(3), drop(1)))), block(1))), "7:0[0]{8:1[1]{> 1}{16:0[1] > 3} > 2}{> 1} > 2"},
		{choices, nil, block(2, if0(0, block(1), block(3, one, match(1, 1, block(1), block(4, dup(4), drop(1)))))), "7:0[0]{> 1}{0:1[] 8:1[1]{> 1}{16:0[1] > 4} > 3} > 2"},
		{list, nil, block(1, match(1, 0, block(0), block(3, match(1, 2, block(0), block(4, dup(4), drop(0)))))), "8:1[0]{> 0}{8:1[2]{> 0}{14:0[4] 15:0[0] > 4} > 3} > 1"},
		{list, nil, block(1, match(1, 0, block(0), block(3, dup(2), drop(0), match(1, 2, block(2), block(4, dup(4), drop(2)))))), "8:1[0]{> 0}{16:0[0] 8:1[2]{> 2}{16:0[2] > 4} > 3} > 1"},
		{list, nil, block(1, dup(0), match(1, 0, block(0), block(2, dup(2), drop(0))), drop(0)), "14:0[0] 8:1[0]{> 0}{16:0[0] > 2} 15:0[0] > 1"},
		// Values that are matched twice.
		{list, nil, block(1, match(1, 0, block(0), block(3, match(1, 0, block(0), block(4, dup(4), drop(0)))))), "8:1[0]{> 0}{8:1[0]{> 0}{16:0[0] > 4} > 3} > 1"},
		{list, nil, block(1, match(1, 0, block(0), block(3, match(1, 0, block(0), block(2, dup(2), drop(0)))))), "8:1[0]{> 0}{8:1[0]{> 0}{14:0[2] 16:0[0] 15:0[4] > 2} > 3} > 1"},
		{list, nil, block(1, match(1, 0, block(0), block(3, dup(0), drop(0), match(1, 0, block(0), block(4, dup(4), drop(0)))))), "8:1[0]{> 0}{14:0[0] 16:0[0] 15:0[2] 8:1[0]{> 0}{16:0[0] > 4} > 3} > 1"},
		{list, nil, block(2, dup(0), match(1, 0, block(0), block(2, dup(2), drop(0))), match(1, 0, block(1, drop(0)), block(3, dup(3), drop(0), drop(1)))), "14:0[0] 8:1[0]{> 0}{16:0[0] > 2} 8:1[0]{15:0[0] > 1}{16:0[0] 15:0[1] > 3} > 2"},
	}
}

// expands returns bodies that show the rules of Expand.
func expands() []rewriting {
	list, triple := []int{1}, []int{3}
	return []rewriting{
		{list, nil, listArms(open(0)), "8:1[0]{> 0}{14:0[2] 15:0[0] > 2} > 1"},
		{list, nil, listArms(dup(2), drop(0)), "8:1[0]{> 0}{14:0[2] 15:0[0] > 2} > 1"},
		{list, nil, listArms(dup(0), open(0), one, drop(0)), "8:1[0]{> 0}{14:0[0] 14:0[2] 15:0[0] 0:1[] 15:0[0] > 2} > 1"},
		{list, nil, listArms(dup(0), open(0), open(0), drop(2)), "8:1[0]{> 0}{14:0[0] 14:0[2] 15:0[0] 14:0[2] 15:0[0] 15:0[2] > 2} > 1"},
		{list, nil, block(1, match(1, 0, block(0), block(3, reuse(0), into(con(1, 1, 2), 1)))), "8:1[0]{> 0}{14:0[2] 15:0[0] 6:1[1 2] > 3} > 1"},
		{list, nil, block(1, match(1, 0, block(1, open(0), con(0)), block(2, open(0)))), "8:1[0]{15:0[0] 6:0[] > 1}{14:0[2] 15:0[0] > 2} > 1"},
		{list, nil, block(1, match(1, 0, block(1, reuse(0), into(con(0), 1)), block(2, open(0)))), "8:1[0]{15:0[0] 6:0[] > 1}{14:0[2] 15:0[0] > 2} > 1"},
		{list, []int{0}, block(1, match(1, 0, block(0, dup(0)), block(2, dup(0), open(0)))), "8:1[0]{14:0[0] > 0}{14:0[0] 14:0[2] 15:0[0] > 2} > 1"},
		// The innermost arm counts, and arms of other variables do not.
		{list, nil, block(1, match(1, 0, block(0), block(3, match(1, 0, block(0), block(4, open(0)))))), "8:1[0]{> 0}{8:1[0]{> 0}{14:0[4] 15:0[0] > 4} > 3} > 1"},
		{list, nil, block(1, match(1, 0, block(0), block(3, match(1, 2, block(2, open(0)), block(2, open(0)))))), "8:1[0]{> 0}{8:1[2]{14:0[2] 15:0[0] > 2}{14:0[2] 15:0[0] > 2} > 3} > 1"},
		{list, nil, block(1, match(1, 0, block(0), block(3, open(0), match(1, 2, block(2), block(4, open(2)))))), "8:1[0]{> 0}{14:0[2] 15:0[0] 8:1[2]{> 2}{14:0[4] 15:0[2] > 4} > 3} > 1"},
		{list, nil, block(1, match(1, 0, block(0), block(3, if0(1, block(2, open(0)), block(2, dup(2), drop(0)))))), "8:1[0]{> 0}{7:0[1]{14:0[2] 15:0[0] > 2}{14:0[2] 15:0[0] > 2} > 3} > 1"},
		{list, nil, block(1, match(1, 0, block(0), block(3, match(1, 0, block(0, dup(0)), block(0, dup(0))), open(0), drop(2)))), "8:1[0]{> 0}{8:1[0]{14:0[0] > 0}{14:0[0] > 0} 14:0[2] 15:0[0] 15:0[2] > 3} > 1"},
		{[]int{0, 1}, nil, block(2, if0(0, block(1), block(3, one, match(1, 1, block(1), block(4, open(1)))))), "7:0[0]{> 1}{0:1[] 8:1[1]{> 1}{14:0[4] 15:0[1] > 4} > 3} > 2"},
		// Several fields, some of them integers.
		{triple, nil, block(1, match(3, 0, block(1, open(0), drop(2)), block(1, open(0), drop(2), drop(3)), block(3, open(0), con(0), drop(2)))), "8:3[0]{14:0[1] 14:0[2] 15:0[0] 15:0[2] > 1}{14:0[1] 14:0[2] 14:0[3] 15:0[0] 15:0[2] 15:0[3] > 1}{14:0[2] 15:0[0] 6:0[] 15:0[2] > 3} > 1"},
		// Cells that are kept across blocks.
		{[]int{4, 0}, nil, block(4, match(4, 0, block(2, reuse(0)), block(3, reuse(0))), one, into(con(1, 3, 2), 1)), "8:4[0]{14:0[2] 15:0[0] > 2}{14:0[3] 15:0[0] > 3} 0:1[] 6:1[3 2] > 4"},
	}
}

// reuses returns bodies that show the rules of Reuse.
func reuses() []rewriting {
	list, both := []int{1}, []int{4}
	return []rewriting{
		{list, nil, tailArm(3, open(0), con(1, 1, 2)), "8:1[0]{> 0}{17:0[0] 6:1into1[1 2] > 3} > 1"},
		{list, nil, tailArm(2, open(0)), "8:1[0]{> 0}{16:0[0] > 2} > 1"},
		{list, nil, tailArm(3, dup(2), drop(0), con(1, 1, 2)), "8:1[0]{> 0}{14:0[2] 15:0[0] 6:1[1 2] > 3} > 1"},
		// Other steps may come before the OpCon step, and the first one that fits counts.
		{list, nil, tailArm(4, open(0), one, con(1, 3, 2)), "8:1[0]{> 0}{17:0[0] 0:1[] 6:1into1[3 2] > 4} > 1"},
		{list, nil, tailArm(4, open(0), con(1, 1, 2), con(1, 1, 3)), "8:1[0]{> 0}{17:0[0] 6:1into1[1 2] 6:1[1 3] > 4} > 1"},
		{list, nil, tailArm(4, open(0), con(0), drop(2), con(1, 1, 3)), "8:1[0]{> 0}{17:0[0] 6:0[] 15:0[2] 6:1into1[1 3] > 4} > 1"},
		{list, nil, tailArm(3, open(0), con(0), drop(2)), "8:1[0]{> 0}{16:0[0] 6:0[] 15:0[2] > 3} > 1"},
		{list, nil, tailArm(3, open(0), dup(2), st(impl.OpCall, 2, 2, 2)), "8:1[0]{> 0}{16:0[0] 14:0[2] 9:2[2 2] > 3} > 1"},
		{list, nil, tailArm(3, open(0), if0(1, block(3, con(1, 1, 2)), block(2))), "8:1[0]{> 0}{16:0[0] 7:0[1]{6:1[1 2] > 3}{> 2} > 3} > 1"},
		// The number of fields counts, also that of another type, and it may be 0.
		{list, nil, block(1, match(1, 0, block(2, drop(0), con(0), dup(1), con(2, 1, 1)), block(3, open(0), dup(2), con(2, 2, 2)))), "8:1[0]{15:0[0] 6:0[] 14:0[1] 6:2[1 1] > 2}{17:0[0] 14:0[2] 6:2into1[2 2] > 3} > 1"},
		{[]int{3}, nil, block(1, match(3, 0, block(4, open(0), con(0), con(3, 1, 2, 3)), block(5, open(0), con(2, 1, 2), drop(4), dup(3), dup(3), con(3, 3, 3, 3)), block(3, open(0), con(4, 1, 2)))), "8:3[0]{16:0[0] 6:0[] 6:3[1 2 3] > 4}{17:0[0] 6:2[1 2] 15:0[4] 14:0[3] 14:0[3] 6:3into1[3 3 3] > 5}{17:0[0] 6:4into1[1 2] > 3} > 1"},
		{both, nil, block(1, match(4, 0, block(3, open(0), con(6, 2, 1)), block(3, open(0), con(5, 2, 1)))), "8:4[0]{17:0[0] 6:6into1[2 1] > 3}{17:0[0] 6:5into1[2 1] > 3} > 1"},
		{list, nil, block(1, match(1, 0, block(1, open(0), con(0)), block(2, open(0)))), "8:1[0]{17:0[0] 6:0into1[] > 1}{16:0[0] > 2} > 1"},
		// The OpOpen step must be among the first counting steps, and the first one of these counts.
		{list, nil, tailArm(4, one, open(0), con(1, 3, 2)), "8:1[0]{> 0}{0:1[] 16:0[0] 6:1[3 2] > 4} > 1"},
		{list, nil, tailArm(3, dup(0), open(0), drop(0), con(1, 1, 2)), "8:1[0]{> 0}{14:0[0] 17:0[0] 15:0[0] 6:1into1[1 2] > 3} > 1"},
		{list, nil, tailArm(3, dup(0), drop(0), open(0), con(1, 1, 2)), "8:1[0]{> 0}{14:0[0] 15:0[0] 17:0[0] 6:1into1[1 2] > 3} > 1"},
		{list, nil, tailArm(3, dup(0), open(0), open(0), drop(2), con(1, 1, 2)), "8:1[0]{> 0}{14:0[0] 17:0[0] 16:0[0] 15:0[2] 6:1into1[1 2] > 3} > 1"},
		{list, nil, tailArm(3, dup(0), open(0), con(1, 1, 2), open(0), drop(2)), "8:1[0]{> 0}{14:0[0] 17:0[0] 6:1into1[1 2] 16:0[0] 15:0[2] > 3} > 1"},
		{list, []int{0}, block(1, match(1, 0, block(0, dup(0)), block(3, dup(0), open(0), con(1, 1, 2)))), "8:1[0]{14:0[0] > 0}{14:0[0] 17:0[0] 6:1into1[1 2] > 3} > 1"},
		// The arm must be one of the variable.
		{list, nil, tailArm(3, match(1, 2, block(2, open(0)), block(5, open(0), dup(4), drop(2), con(1, 3, 4)))), "8:1[0]{> 0}{8:1[2]{16:0[0] > 2}{16:0[0] 14:0[4] 15:0[2] 6:1[3 4] > 5} > 3} > 1"},
		{list, nil, tailArm(3, match(1, 2, block(2, open(0)), block(5, open(0), open(2), con(1, 3, 4)))), "8:1[0]{> 0}{8:1[2]{16:0[0] > 2}{16:0[0] 17:0[2] 6:1into3[3 4] > 5} > 3} > 1"},
		{list, nil, tailArm(3, if0(1, block(3, open(0), con(1, 1, 2)), block(0))), "8:1[0]{> 0}{7:0[1]{16:0[0] 6:1[1 2] > 3}{> 0} > 3} > 1"},
		// Arms inside of other blocks.
		{[]int{0, 1}, nil, block(2, if0(0, block(1), block(2, match(1, 1, block(1), block(4, open(1), con(1, 2, 3)))))), "7:0[0]{> 1}{8:1[1]{> 1}{17:0[1] 6:1into2[2 3] > 4} > 2} > 2"},
		{list, nil, tailArm(4, open(0), match(1, 2, block(2), block(5, open(2), con(1, 3, 4))), con(1, 1, 3)), "8:1[0]{> 0}{17:0[0] 8:1[2]{> 2}{17:0[2] 6:1into3[3 4] > 5} 6:1into1[1 3] > 4} > 1"},
		{list, nil, tailArm(3, open(0), match(1, 2, block(2), block(5, open(2), con(1, 3, 4)))), "8:1[0]{> 0}{16:0[0] 8:1[2]{> 2}{17:0[2] 6:1into3[3 4] > 5} > 3} > 1"},
		// Values that are matched twice, one after the other and one in the other.
		{list, nil, block(2, dup(0), match(1, 0, block(0), block(3, open(0), con(1, 1, 2))), match(1, 0, block(0), block(4, open(0), con(1, 2, 3))), drop(1)), "14:0[0] 8:1[0]{> 0}{17:0[0] 6:1into1[1 2] > 3} 8:1[0]{> 0}{17:0[0] 6:1into1[2 3] > 4} 15:0[1] > 2"},
		{list, nil, tailArm(4, dup(0), open(0), match(1, 0, block(0), block(5, open(0), con(1, 3, 4))), con(1, 1, 2), drop(3)), "8:1[0]{> 0}{14:0[0] 17:0[0] 8:1[0]{> 0}{16:0[0] 6:1[3 4] > 5} 6:1into1[1 2] 15:0[3] > 4} > 1"},
		{list, nil, tailArm(4, dup(0), open(0), con(1, 1, 2), match(1, 0, block(0), block(6, open(0), con(1, 4, 5))), drop(3)), "8:1[0]{> 0}{14:0[0] 17:0[0] 6:1into1[1 2] 8:1[0]{> 0}{16:0[0] 6:1[4 5] > 6} 15:0[3] > 4} > 1"},
		{list, nil, tailArm(3, dup(0), open(0), match(1, 0, block(0), block(5, open(0), con(1, 3, 4))), drop(2)), "8:1[0]{> 0}{14:0[0] 16:0[0] 8:1[0]{> 0}{17:0[0] 6:1into1[3 4] > 5} 15:0[2] > 3} > 1"},
		{list, nil, tailArm(3, match(1, 0, block(0), block(5, open(0), con(1, 3, 4)))), "8:1[0]{> 0}{8:1[0]{> 0}{17:0[0] 6:1into1[3 4] > 5} > 3} > 1"},
		// A third arm of the variable, and one of another variable between.
		{list, nil, tailArm(3, match(1, 0, block(0), block(6, dup(0), open(0), match(1, 0, block(0), block(7, open(0), con(1, 5, 6))), con(1, 3, 4), drop(5)))), "8:1[0]{> 0}{8:1[0]{> 0}{14:0[0] 17:0[0] 8:1[0]{> 0}{16:0[0] 6:1[5 6] > 7} 6:1into1[3 4] 15:0[5] > 6} > 3} > 1"},
		{list, nil, tailArm(4, dup(0), open(0), match(1, 2, block(0, drop(2)), block(6, open(2), match(1, 0, block(0), block(7, open(0), con(1, 5, 6))), con(1, 3, 4), drop(5))), con(1, 1, 3)), "8:1[0]{> 0}{14:0[0] 17:0[0] 8:1[2]{15:0[2] > 0}{17:0[2] 8:1[0]{> 0}{16:0[0] 6:1[5 6] > 7} 6:1into3[3 4] 15:0[5] > 6} 6:1into1[1 3] > 4} > 1"},
		// An arm of another variable around does not matter, and neither does a changed one beside.
		{[]int{1, 1}, nil, block(2, match(1, 0, block(3, open(0), con(0), match(1, 1, block(1), block(5, open(1), con(1, 3, 4))), drop(2)), block(5, open(0), match(1, 1, block(1), block(6, open(1), con(1, 4, 5))), con(1, 2, 3), drop(4)))), "8:1[0]{17:0[0] 6:0into1[] 8:1[1]{> 1}{17:0[1] 6:1into2[3 4] > 5} 15:0[2] > 3}{17:0[0] 8:1[1]{> 1}{17:0[1] 6:1into2[4 5] > 6} 6:1into1[2 3] 15:0[4] > 5} > 2"},
	}
}
