package tests

import (
	"testing"

	"loop.example/refcountml/impl"
)

// flattened returns the image of a balanced normal form.
func flattened(t *testing.T, n impl.Normal) impl.Image {
	t.Helper()
	out, ok := impl.Flatten(n)
	if !ok {
		t.Fatalf("Flatten(%v) fails", n)
	}
	return out
}

// failsToFlatten tells if Flatten takes a normal form that it should not.
func failsToFlatten(t *testing.T, n impl.Normal) {
	t.Helper()
	if out, ok := impl.Flatten(n); ok || text(out) != text(impl.Image{}) {
		t.Fatalf("Flatten(%.200s) = %v, %v", text(n), out, ok)
	}
}

// tailed returns a valid image with tail calls.
func tailed(t *testing.T, im impl.Image) impl.Image {
	t.Helper()
	out, ok := impl.TailCalls(im)
	if !ok {
		t.Fatalf("TailCalls(%v) fails", im)
	}
	return out
}

// flattening is a balanced body of a routine with some parameters, and its code.
type flattening struct {
	params []int
	lent   []int
	b      impl.Block
	regs   int
	want   string
}

// flattenings returns bodies that show the rules of Flatten.
func flattenings() []flattening {
	list, two, number, choices := []int{1}, []int{1, 1}, []int{0}, []int{0, 1, 1}
	same0 := block(0)
	return []flattening{
		// Blocks without choices, and registers that only parameters need.
		{nil, nil, block(0, one), 1, "0=int1() return(0)"},
		{nil, nil, block(0, st(impl.OpInt, -999), st(impl.OpInt, 999)), 2, "0=int-999() 1=int999() return(0)"},
		{number, nil, same0, 1, "return(0)"},
		{[]int{0, 0, 0}, nil, same0, 3, "return(0)"},
		{[]int{0, 0, 0}, nil, block(2), 3, "return(2)"},
		{[]int{0, 1, 1}, []int{1, 2}, same0, 3, "return(0)"},
		{[]int{0, 0}, nil, block(6, st(impl.OpAdd, 0, 0, 1), st(impl.OpSub, 0, 2, 1), st(impl.OpMul, 0, 3, 2), st(impl.OpLess, 0, 4, 0), st(impl.OpPrint, 0, 5)), 7, "2=add(0 1) 3=sub(2 1) 4=mul(3 2) 5=less(4 0) 6=print(5) return(6)"},
		{[]int{0, 1}, nil, block(2, con(1, 0, 1)), 3, "2=con1(0 1) return(2)"},
		{nil, nil, block(0, con(0)), 1, "0=con0() return(0)"},
		{list, nil, block(1, enclose(2, 0)), 2, "1=close2(0) return(1)"},
		{[]int{2, 1}, nil, block(2, apply(0, 1)), 3, "2=apply(0 1) return(2)"},
		{two, nil, block(2, call(2, 0, 1)), 3, "2=call2(0 1) return(2)"},
		{two, nil, block(2, call(1, 0, 1), drop(0)), 3, "2=call1(0 1) drop(0) return(2)"},
		{nil, nil, block(0, call(0)), 1, "0=call0() return(0)"},
		{list, nil, block(1, dup(0), con(2, 0, 0)), 2, "dup(0) 1=con2(0 0) return(1)"},
		{list, nil, block(1, dup(0), dup(0), drop(0), one, drop(0), drop(0)), 2, "dup(0) dup(0) drop(0) 1=int1() drop(0) drop(0) return(1)"},
		// Choices by integers.
		{number, nil, block(1, if0(0, same0, same0)), 2, "branch3(0) 1=move(0) jump4() 1=move(0) return(1)"},
		{choices, nil, block(3, if0(0, block(1, drop(2)), block(2, drop(1)))), 4, "branch4(0) drop(2) 3=move(1) jump6() drop(1) 3=move(2) return(3)"},
		{number, nil, block(0, if0(0, block(3, one, one, one), same0)), 4, "branch6(0) 1=int1() 2=int1() 3=int1() 1=move(3) jump7() 1=move(0) return(0)"},
		{number, nil, block(1, if0(0, same0, block(2, one, one))), 3, "branch3(0) 1=move(0) jump6() 1=int1() 2=int1() 1=move(2) return(1)"},
		{number, nil, block(2, if0(0, same0, block(1, one)), st(impl.OpPrint, 0, 1)), 3, "branch3(0) 1=move(0) jump5() 1=int1() 1=move(1) 2=print(1) return(2)"},
		{number, nil, block(2, one, if0(1, block(2, one), same0)), 3, "1=int1() branch5(1) 2=int1() 2=move(2) jump6() 2=move(0) return(2)"},
		// Choices inside of each other, and one after the other.
		{number, nil, block(1, if0(0, block(1, if0(0, same0, same0)), same0)), 2, "branch7(0) branch4(0) 1=move(0) jump5() 1=move(0) 1=move(1) jump8() 1=move(0) return(1)"},
		{number, nil, block(1, if0(0, same0, block(1, if0(0, same0, same0)))), 2, "branch3(0) 1=move(0) jump8() branch6(0) 1=move(0) jump7() 1=move(0) 1=move(1) return(1)"},
		{number, nil, block(1, if0(0, block(2, if0(0, same0, same0), one), block(2, one, if0(1, same0, same0)))), 3, "branch8(0) branch4(0) 1=move(0) jump5() 1=move(0) 2=int1() 1=move(2) jump14() 1=int1() branch12(1) 2=move(0) jump13() 2=move(0) 1=move(2) return(1)"},
		{number, nil, block(2, if0(0, same0, same0), if0(1, same0, block(1))), 3, "branch3(0) 1=move(0) jump4() 1=move(0) branch7(1) 2=move(0) jump8() 2=move(1) return(2)"},
		{[]int{0, 1}, nil, block(2, if0(0, block(2, match(1, 1, block(1), block(3, open(1)))), block(1))), 4, "branch10(0) switch1(1){2 4} 2=move(1) jump8() 2=load0(1) 3=load1(1) open(1 3) 2=move(3) 2=move(2) jump11() 2=move(1) return(2)"},
		{list, nil, block(1, match(1, 0, block(0), block(3, if0(1, block(2, open(0)), block(2, dup(2), drop(0)))))), 4, "switch1(0){1 3} 1=move(0) jump13() 1=load0(0) 2=load1(0) branch9(1) open(0 2) 3=move(2) jump12() dup(2) drop(0) 3=move(2) 1=move(3) return(1)"},
		// Matches, with the fields of all types.
		{list, nil, listArms(dup(2), drop(0)), 3, "switch1(0){1 3} 1=move(0) jump8() 1=load0(0) 2=load1(0) dup(2) drop(0) 1=move(2) return(1)"},
		{list, nil, listArms(open(0)), 3, "switch1(0){1 3} 1=move(0) jump7() 1=load0(0) 2=load1(0) open(0 2) 1=move(2) return(1)"},
		{list, nil, block(1, match(1, 0, block(1, open(0), con(0)), block(2, open(0)))), 3, "switch1(0){1 5} open(0) 1=con0() 1=move(1) jump9() 1=load0(0) 2=load1(0) open(0 2) 1=move(2) return(1)"},
		{list, []int{0}, block(2, match(1, 0, block(1, one), block(1)), one), 3, "switch1(0){1 4} 1=int1() 1=move(1) jump7() 1=load0(0) 2=load1(0) 1=move(1) 2=int1() return(2)"},
		{[]int{3}, nil, block(1, match(3, 0, block(1, open(0), drop(2)), block(1, open(0), drop(2), drop(3)), block(3, open(0), con(0), drop(2)))), 4, "switch3(0){1 7 15} 1=load0(0) 2=load1(0) open(0 1 2) drop(2) 1=move(1) jump21() 1=load0(0) 2=load1(0) 3=load2(0) open(0 1 2 3) drop(2) drop(3) 1=move(1) jump21() 1=load0(0) 2=load1(0) open(0 2) 3=con0() drop(2) 1=move(3) return(1)"},
		{[]int{4}, nil, block(1, match(4, 0, block(1, open(0)), block(2, open(0)))), 3, "switch4(0){1 6} 1=load0(0) 2=load1(0) open(0 1) 1=move(1) jump10() 1=load0(0) 2=load1(0) open(0 2) 1=move(2) return(1)"},
		// The innermost arm of a variable counts, and arms of other variables do not.
		{list, nil, tailArm(3, match(1, 0, block(0), block(4, open(0)))), 5, "switch1(0){1 3} 1=move(0) jump13() 1=load0(0) 2=load1(0) switch1(0){6 8} 3=move(0) jump12() 3=load0(0) 4=load1(0) open(0 4) 3=move(4) 1=move(3) return(1)"},
		{list, nil, tailArm(3, match(1, 0, block(0, dup(0)), block(0, dup(0))), open(0), drop(2)), 5, "switch1(0){1 3} 1=move(0) jump16() 1=load0(0) 2=load1(0) switch1(0){6 9} dup(0) 3=move(0) jump13() 3=load0(0) 4=load1(0) dup(0) 3=move(0) open(0 2) drop(2) 1=move(3) return(1)"},
		{list, nil, tailArm(3, match(1, 2, block(2, open(0)), block(2, open(0)))), 5, "switch1(0){1 3} 1=move(0) jump14() 1=load0(0) 2=load1(0) switch1(2){6 9} open(0 2) 3=move(2) jump13() 3=load0(2) 4=load1(2) open(0 2) 3=move(2) 1=move(3) return(1)"},
		{list, nil, tailArm(3, open(0), match(1, 2, block(2), block(4, open(2)))), 5, "switch1(0){1 3} 1=move(0) jump14() 1=load0(0) 2=load1(0) open(0 2) switch1(2){7 9} 3=move(2) jump13() 3=load0(2) 4=load1(2) open(2 4) 3=move(4) 1=move(3) return(1)"},
		// Cells that are kept, in the block itself and across blocks.
		{list, nil, tailArm(3, reuse(0), into(con(1, 1, 2), 1)), 4, "switch1(0){1 3} 1=move(0) jump8() 1=load0(0) 2=load1(0) reuse(0 2) 3=con1into1(1 2) 1=move(3) return(1)"},
		{list, nil, block(1, match(1, 0, block(1, reuse(0), into(con(0), 1)), block(2, open(0)))), 3, "switch1(0){1 5} reuse(0) 1=con0into1() 1=move(1) jump9() 1=load0(0) 2=load1(0) open(0 2) 1=move(2) return(1)"},
		{[]int{4, 0}, nil, block(4, match(4, 0, block(2, reuse(0)), block(3, reuse(0))), one, into(con(1, 3, 2), 1)), 5, "switch4(0){1 6} 2=load0(0) 3=load1(0) reuse(0 2) 2=move(2) jump10() 2=load0(0) 3=load1(0) reuse(0 3) 2=move(3) 3=int1() 4=con1into1(3 2) return(4)"},
	}
}

func TestFlattenOfTheRules(t *testing.T) {
	for _, c := range flattenings() {
		n := balancedRule(t, c.params, c.lent, c.b)
		p := flattened(t, n).Procs[3]
		if got := showCode(p.Code); got != c.want {
			t.Errorf("Flatten of %s has\n%s, want\n%s", show(c.b), got, c.want)
		}
		if p.Regs != c.regs || !same(p.Params, c.params...) || !same(p.Lent, c.lent...) || p.Result != n.Routines[3].Result {
			t.Errorf("Flatten of %s = %v", show(c.b), p)
		}
	}
}

func TestFlattenOfTheExample(t *testing.T) {
	im := flattened(t, countedOf(t, normalOf(t, sumProgram())))
	if got := showCode(im.Procs[1].Code); got != "switch1(0){1 5} drop(0) 1=int0() 1=move(1) jump12() 1=load0(0) 2=load1(0) dup(2) drop(0) 3=call1(2) 4=add(1 3) 1=move(4) return(1)" {
		t.Errorf("Flatten has %s", got)
	}
	if got := showCode(im.Procs[0].Code); got != "0=int5() 1=int7() 2=con0() 3=con1(1 2) 4=con1(0 3) 5=call1(4) return(5)" {
		t.Errorf("Flatten has %s", got)
	}
	if im.Procs[1].Regs != 5 || im.Procs[0].Regs != 6 || text(im.Decls) != text(lists()) || len(im.Procs) != 2 {
		t.Errorf("Flatten = %v", im)
	}
	lent := flattened(t, countedOf(t, rewritten(t, borrowing, normalOf(t, sumProgram())))).Procs[1]
	if got := showCode(lent.Code); got != "switch1(0){1 4} 1=int0() 1=move(1) jump11() 1=load0(0) 2=load1(0) dup(2) 3=call1(2) drop(2) 4=add(1 3) 1=move(4) return(1)" || !same(lent.Lent, 0) {
		t.Errorf("Flatten of Borrow has %s, and lends %v", got, lent.Lent)
	}
}

func TestFlattenOfTypesWithOneConstructor(t *testing.T) {
	for _, c := range []struct {
		cons []int
		b    impl.Block
		want string
	}{
		{nil, block(1, match(1, 0, block(0))), "switch1(0){1} 1=move(0) return(1)"},
		{nil, block(1, match(1, 0, block(1, drop(0), con(0)))), "switch1(0){1} drop(0) 1=con0() 1=move(1) return(1)"},
		{nil, block(1, match(1, 0, block(1, open(0), con(0)))), "switch1(0){1} open(0) 1=con0() 1=move(1) return(1)"},
		{nil, block(1, match(1, 0, block(1, reuse(0), into(con(0), 1)))), "switch1(0){1} reuse(0) 1=con0into1() 1=move(1) return(1)"},
		{[]int{0, 0, 0}, block(1, match(1, 0, block(4, open(0), con(0, 3, 2, 1)))), "switch1(0){1} 1=load0(0) 2=load1(0) 3=load2(0) open(0) 4=con0(3 2 1) 1=move(4) return(1)"},
		{[]int{0, 0, 0}, block(1, match(1, 0, block(4, reuse(0), into(con(0, 3, 2, 1), 1)))), "switch1(0){1} 1=load0(0) 2=load1(0) 3=load2(0) reuse(0) 4=con0into1(3 2 1) 1=move(4) return(1)"},
		{[]int{1, 1}, block(1, match(1, 0, block(1, open(0), drop(2)))), "switch1(0){1} 1=load0(0) 2=load1(0) open(0 1 2) drop(2) 1=move(1) return(1)"},
		{[]int{0, 1, 0}, block(1, match(1, 0, block(4, match(1, 2, block(7, open(0), open(2), con(0, 1, 5, 3)))))), "switch1(0){1} 1=load0(0) 2=load1(0) 3=load2(0) switch1(2){5} 4=load0(2) 5=load1(2) 6=load2(2) open(0 2) open(2 5) 7=con0(1 5 3) 4=move(7) 1=move(4) return(1)"},
	} {
		n := impl.Normal{Decls: []impl.Decl{dataOf(c.cons)}, Routines: []impl.Routine{{Body: block(0, one)}, {Params: []int{1}, Result: 1, Body: c.b}}}
		if got := showCode(flattened(t, n).Procs[1].Code); got != c.want {
			t.Errorf("Flatten of %s has\n%s, want\n%s", show(c.b), got, c.want)
		}
	}
}

func TestFlattenAgreesWithTheSecondWay(t *testing.T) {
	for _, n := range append(balancedVariants(), keptForms(t)...) {
		if got, want := flattened(t, n), flatMeaning(n); text(got) != text(want) {
			t.Fatalf("Flatten(%v) = %v, want %v", n, got, want)
		}
	}
}

// wideForm returns a normal form with a routine whose code has some instructions: mostly matches of a lent parameter, each with 15.
func wideForm(code int) impl.Normal {
	three := []int{0, 1, 0}
	b := block(0)
	for left := code - 1; left > 0; {
		if left >= 15 {
			b.Steps = append(b.Steps, match(1, 1, block(0), block(0), block(0)))
			left -= 15
		} else {
			b.Steps = append(b.Steps, one)
			left--
		}
	}
	return impl.Normal{Decls: []impl.Decl{dataOf(three, three, three)}, Routines: []impl.Routine{
		{Body: block(0, one)}, {Params: []int{0, 1}, Lent: []int{1}, Body: b}, {Params: []int{0, 1}, Lent: []int{1}, Body: block(0)}, {Params: []int{0, 1}, Lent: []int{1}, Body: b},
	}}
}

// deepForm returns a normal form with choices inside of each other, some deep, and some integers at the beginning.
func deepForm(depth int, integers int) impl.Normal {
	b := block(0)
	for k := 0; k < depth; k++ {
		b = block(0, if0(0, block(0), b))
	}
	b.Steps = append(manyInts(integers), b.Steps...)
	return impl.Normal{Routines: []impl.Routine{{Body: block(0, one)}, {Params: []int{0}, Body: b}}}
}

func TestFlattenAtTheLimit(t *testing.T) {
	for _, size := range []int{1, 2, 15, 16, 1985, 1999, 2000, 2001, 2002, 2015, 8986} {
		n := wideForm(size)
		if !impl.Balanced(n) {
			t.Fatalf("the form with %d instructions is not balanced", size)
		}
		if size > 2000 {
			failsToFlatten(t, n)
		} else if im := flattened(t, n); len(im.Procs[1].Code) != size || len(im.Procs[3].Code) != size || !impl.ValidImage(im) {
			t.Errorf("Flatten has %d instructions, want %d", len(im.Procs[1].Code), size)
		}
		// Each procedure has a limit of its own, and one that is too long is enough.
		for _, f := range []int{1, 3} {
			if alone := withBlock(n, f, block(0)); size > 2000 {
				failsToFlatten(t, alone)
			} else if im := flattened(t, alone); len(im.Procs[4-f].Code) != size {
				t.Errorf("Flatten has %d instructions, want %d", len(im.Procs[4-f].Code), size)
			}
		}
		flattened(t, withBlock(withBlock(n, 1, block(0)), 3, block(0)))
	}
	// A choice inside of each other has four instructions, and its targets are far.
	for _, c := range []struct{ depth, integers int }{{499, 3}, {499, 4}, {500, 0}, {466, 134}, {467, 133}, {600, 0}} {
		n := deepForm(c.depth, c.integers)
		size := 4*c.depth + c.integers + 1
		if size > 2000 {
			failsToFlatten(t, n)
		} else if im := flattened(t, n); len(im.Procs[1].Code) != size || text(im) != text(flatMeaning(n)) {
			t.Errorf("Flatten of %d choices and %d integers has %d instructions, want %d", c.depth, c.integers, len(im.Procs[1].Code), size)
		}
	}
}

func TestFlattenOfInvalidNormalForms(t *testing.T) {
	for _, n := range notNormals() {
		failsToFlatten(t, n)
	}
	for i, x := range variants() {
		if i%3 == 0 && !impl.Balanced(x.n) {
			failsToFlatten(t, x.n)
		}
	}
	whole := balancedRule(t, []int{1}, nil, listArms(dup(2), drop(0)))
	for f := 1; f <= 3; f++ {
		failsToFlatten(t, withSteps(whole, f, append([]impl.Step{dup(0)}, whole.Routines[f].Body.Steps...)))
		failsToFlatten(t, withSteps(whole, f, append([]impl.Step{open(0)}, whole.Routines[f].Body.Steps...)))
	}
	failsToFlatten(t, normalOf(t, sumProgram()))
}

// Flat code, with and without tail calls, prints and returns what the normal form does.
func TestFlatCodeDoesWhatItShould(t *testing.T) {
	for i, n := range balancedVariants() {
		if i%2 > 0 {
			continue
		}
		im := flattened(t, n)
		tail := tailed(t, im)
		for _, most := range []int{0, 1, 3, 9, 40} {
			want := text(executed(t, n, most))
			if got := text(runMeaning(im, most)); got != want {
				t.Fatalf("%v with %d calls: %s, want %s", im, most, got, want)
			}
			if got := text(runMeaning(tail, most)); got != want {
				t.Fatalf("TailCalls %v with %d calls: %s, want %s", tail, most, got, want)
			}
		}
	}
}

// instrRule is an instruction in front of others, and whether it is valid.
type instrRule struct {
	x  impl.Instr
	ok bool
}

// instrRules returns instructions that are valid, or nearly so, as the second one of six instructions of a procedure with six registers (imageOf).
func instrRules() []instrRule {
	out := []instrRule{
		{to(5, impl.OpInt, 999), true}, {to(0, impl.OpInt, -999), true}, {to(0, impl.OpInt, 1000), false}, {to(0, impl.OpInt, -1000), false}, {to(6, impl.OpInt, 1), false}, {to(-1, impl.OpInt, 1), false}, {to(0, impl.OpInt, 1, 0), false},
		{printTo(5, 5), true}, {printTo(1, 6), false}, {printTo(1, -1), false}, {to(1, impl.OpPrint, 1, 0), false}, {to(1, impl.OpPrint, 0), false}, {to(1, impl.OpPrint, 0, 1, 1), false},
		{conTo(1, 0), true}, {conTo(1, 0, 1), false}, {conTo(1, 1, 0, 5), true}, {conTo(1, 1, 0), false}, {conTo(1, 1, 0, 6), false}, {conTo(1, 1, 0, 1, 2), false}, {conTo(5, 3, 0, 1, 2), true}, {conTo(5, 6, 0, 0), true}, {conTo(5, 7, 0, 0), false}, {conTo(5, -1), false}, {conTo(5, -1, 0, 0), false}, {conTo(6, 0), false},
		{callTo(5, 0), true}, {callTo(5, 0, 1), false}, {callTo(5, 1, 0, 1), true}, {callTo(5, 1, 0), false}, {callTo(5, 2, 0), true}, {callTo(5, 3, 5, 5), true}, {callTo(5, 3, 5, 6), false}, {callTo(6, 3, 5, 5), false}, {callTo(5, 4), false}, {callTo(5, -1), false}, {callTo(5, 3, 5, 5, 5), false},
		{tailTo(0), true}, {tailTo(1, 0, 1), true}, {tailTo(1, 0), false}, {tailTo(3, 5, 0), true}, {tailTo(4), false}, {tailTo(-1), false}, {to(1, impl.OpTail, 0), false}, {to(1, impl.OpTail, 2, 0), false},
		{closeTo(5, 2), true}, {closeTo(5, 2, 0), false}, {closeTo(5, 3, 0), true}, {closeTo(5, 3), false}, {closeTo(5, 3, 0, 0), false}, {closeTo(5, 1, 0), false}, {closeTo(5, 1), false}, {closeTo(5, 0), false}, {closeTo(5, 4), false}, {closeTo(5, -1), false},
		{to(5, impl.OpApply, 0, 5, 0), true}, {to(5, impl.OpApply, 1, 5, 0), false}, {to(5, impl.OpApply, 0, 5), false}, {to(5, impl.OpApply, 0, 5, 0, 0), false}, {to(6, impl.OpApply, 0, 5, 0), false},
		{move(5, 0), true}, {move(0, 5), true}, {move(3, 3), true}, {move(6, 0), false}, {move(0, 6), false}, {to(1, impl.OpMove, 1, 0), false}, {to(1, impl.OpMove, 0), false}, {to(1, impl.OpMove, 0, 1, 1), false},
		{load(5, 0, 5), true}, {load(5, 2, 5), true}, {load(5, 3, 5), false}, {load(5, -1, 5), false}, {load(6, 0, 5), false}, {load(5, 0, 6), false}, {to(5, impl.OpLoad, 0), false}, {to(5, impl.OpLoad, 0, 1, 1), false},
		{branch(2, 5), true}, {branch(5, 0), true}, {branch(1, 0), false}, {branch(0, 0), false}, {branch(6, 0), false}, {branch(-1, 0), false}, {branch(2, 6), false}, {in(impl.OpBranch, 2), false}, {in(impl.OpBranch, 2, 0, 0), false}, {to(1, impl.OpBranch, 2, 0), false},
		{jump(2), true}, {jump(5), true}, {jump(1), false}, {jump(0), false}, {jump(6), false}, {jump(-1), false}, {in(impl.OpJump, 2, 0), false}, {to(1, impl.OpJump, 2), false},
		{jumping(1, 5, 2, 5), true}, {jumping(1, 5, 2, 2), true}, {jumping(1, 5, 5, 3), true}, {jumping(1, 5, 2), false}, {jumping(1, 5), false}, {jumping(1, 5, 2, 2, 2), false}, {jumping(3, 5, 2, 2, 2), true}, {jumping(3, 5, 2, 2), false}, {jumping(1, 5, 1, 2), false}, {jumping(1, 5, 2, 1), false}, {jumping(1, 5, 2, 6), false}, {jumping(1, 5, -1, 2), false}, {jumping(2, 5, 2), false}, {jumping(2, 5), false}, {jumping(0, 5), false}, {jumping(0, 5, 2, 2), false}, {jumping(5, 5, 2), false}, {jumping(-1, 5, 2, 2), false}, {jumping(1, 6, 2, 2), false},
		{impl.Instr{Op: impl.OpSwitch, Num: 1, Jumps: []int{2, 2}}, false}, {impl.Instr{Op: impl.OpSwitch, Num: 1, Args: []int{0, 0}, Jumps: []int{2, 2}}, false}, {impl.Instr{Op: impl.OpSwitch, Dst: 1, Num: 1, Args: []int{0}, Jumps: []int{2, 2}}, false},
		{back(5), true}, {back(0), true}, {back(6), false}, {back(-1), false}, {in(impl.OpReturn, 1, 0), false}, {in(impl.OpReturn, 0), false}, {in(impl.OpReturn, 0, 0, 0), false}, {to(1, impl.OpReturn, 0, 0), false},
	}
	for _, op := range []int{impl.OpAdd, impl.OpSub, impl.OpMul, impl.OpLess} {
		out = append(out, instrRule{to(5, op, 0, 5, 0), true}, instrRule{to(5, op, 1, 5, 0), false}, instrRule{to(5, op, 0, 5), false}, instrRule{to(5, op, 0), false}, instrRule{to(5, op, 0, 5, 0, 0), false}, instrRule{to(6, op, 0, 5, 0), false}, instrRule{to(5, op, 0, 5, 6), false})
	}
	for _, op := range []int{impl.OpDup, impl.OpDrop} {
		out = append(out, instrRule{in(op, 0, 5), true}, instrRule{in(op, 0), false}, instrRule{in(op, 0, 5, 5), false}, instrRule{in(op, 1, 5), false}, instrRule{to(1, op, 0, 5), false}, instrRule{in(op, 0, 6), false})
	}
	for _, op := range []int{impl.OpOpen, impl.OpReuse} {
		out = append(out, instrRule{in(op, 0, 5), true}, instrRule{in(op, 0, 5, 5), true}, instrRule{in(op, 0, 5, 0, 1), true}, instrRule{in(op, 0, 5, 0, 1, 2), true}, instrRule{in(op, 0, 5, 0, 1, 2, 3), false}, instrRule{in(op, 0), false}, instrRule{in(op, 0, 5, 6), false}, instrRule{in(op, 1, 5), false}, instrRule{to(1, op, 0, 5), false})
	}
	for _, op := range []int{-1, impl.OpIf, impl.OpMatch, impl.OpVar, impl.OpLet, 25, 26, -1 << 63, 1<<63 - 1} {
		for many := 0; many <= 3; many++ {
			out = append(out, instrRule{in(op, 0, make([]int, many)...), false}, instrRule{in(op, 1, make([]int, many)...), false}, instrRule{in(op, 2, make([]int, many)...), false})
		}
	}
	return out
}

// amongOthers returns an image with an instruction among others, five of them without any effect.
func amongOthers(x impl.Instr) impl.Image {
	return imageOf(move(0, 0), x, move(0, 0), move(0, 0), move(0, 0), back(0))
}

func TestValidImageOfInstructions(t *testing.T) {
	for _, c := range instrRules() {
		if im := amongOthers(c.x); impl.ValidImage(im) != c.ok || imageFits(im) != c.ok {
			t.Errorf("ValidImage with %s = %v", showInstr(c.x), !c.ok)
		}
	}
}

func TestValidImageOfIntoAndJumps(t *testing.T) {
	for _, op := range codeOps() {
		for _, c := range instrRules() {
			if c.x.Op != op || !c.ok {
				continue
			}
			for _, n := range []int{-1, 1, 6, 7, 1 << 62} {
				x := c.x
				x.Into = n
				if want := op == impl.OpCon && n > 0 && n <= 6; impl.ValidImage(amongOthers(x)) != want {
					t.Errorf("ValidImage with %s = %v", showInstr(x), !want)
				}
			}
			x := c.x
			x.Jumps = append([]int{2}, x.Jumps...)
			if impl.ValidImage(amongOthers(x)) {
				t.Errorf("ValidImage with %s", showInstr(x))
			}
		}
	}
}

func TestValidImageOfTheLastInstruction(t *testing.T) {
	for _, c := range instrRules() {
		last := c.ok && (c.x.Op == impl.OpReturn || c.x.Op == impl.OpTail)
		if im := imageOf(move(0, 0), c.x); impl.ValidImage(im) != last {
			t.Errorf("ValidImage with %s as the last instruction = %v", showInstr(c.x), !last)
		}
		if im := imageOf(c.x); impl.ValidImage(im) != last {
			t.Errorf("ValidImage with %s alone = %v", showInstr(c.x), !last)
		}
	}
	if impl.ValidImage(imageOf()) {
		t.Error("ValidImage of a procedure without code")
	}
}

// longCode returns code of some instructions.
func longCode(many int) []impl.Instr {
	var out []impl.Instr
	for k := 1; k < many; k++ {
		out = append(out, move(0, 0))
	}
	return append(out, back(0))
}

func TestValidImageAtTheLimits(t *testing.T) {
	for f := 0; f < 4; f++ {
		for _, many := range []int{1, 2, 1999, 2000, 2001, 2002, 5000} {
			im := imageOf(back(0))
			im.Procs[f].Code = longCode(many)
			if want := many <= 2000; impl.ValidImage(im) != want {
				t.Errorf("ValidImage with %d instructions = %v", many, !want)
			}
		}
		for _, regs := range []int{-1 << 63, -1, 0, 1, 2, 3, 1999, 2000, 2001, 1<<63 - 1} {
			im := imageOf(back(0))
			im.Procs[f].Code = []impl.Instr{move(0, 0), back(0)}
			im.Procs[f].Regs = regs
			if want := regs >= 1 && regs >= len(im.Procs[f].Params) && regs <= 2000; impl.ValidImage(im) != want {
				t.Errorf("ValidImage with %d registers in the procedure %d = %v", regs, f, !want)
			}
		}
		for _, reg := range []int{-1, 0, 1998, 1999, 2000} {
			for _, x := range []impl.Instr{move(reg, 0), move(0, reg), {Op: impl.OpCon, Into: reg + 1}} {
				im := imageOf(back(0))
				im.Procs[f].Code = []impl.Instr{x, back(0)}
				im.Procs[f].Regs = 2000
				if want := reg >= 0 && reg <= 1999 || x.Op == impl.OpCon && reg == -1; impl.ValidImage(im) != want {
					t.Errorf("ValidImage with %s and 2000 registers = %v", showInstr(x), !want)
				}
			}
		}
	}
	many := imageOf(jump(1999))
	many.Procs[3].Code = append(many.Procs[3].Code, longCode(1999)...)
	if !impl.ValidImage(many) || !same(impl.ReachedCode(many, 3), 0, 1999) {
		t.Error("ValidImage with a jump from the first instruction to the last one")
	}
}

// signing is a change of the signatures of an image, and whether it stays valid.
type signing struct {
	change func(im *impl.Image)
	ok     bool
}

func TestValidImageOfSignatures(t *testing.T) {
	for i, c := range []signing{
		{func(im *impl.Image) {}, true},
		{func(im *impl.Image) { im.Procs = nil }, false},
		{func(im *impl.Image) { im.Procs = im.Procs[:1] }, true},
		{func(im *impl.Image) { im.Procs = append(im.Procs, im.Procs[3]) }, false},
		{func(im *impl.Image) { im.Procs = make([]impl.Proc, 100000) }, false},
		{func(im *impl.Image) { im.Procs = im.Procs[1:] }, false},
		{func(im *impl.Image) { im.Procs[0].Params = []int{0} }, false},
		{func(im *impl.Image) { im.Procs[0].Result = 1 }, false},
		{func(im *impl.Image) { im.Procs[3].Result = 4 }, true},
		{func(im *impl.Image) { im.Procs[3].Result = 5 }, false},
		{func(im *impl.Image) { im.Procs[3].Result = -1 }, false},
		{func(im *impl.Image) { im.Procs[3].Params = []int{4, 0, 0} }, true},
		{func(im *impl.Image) { im.Procs[3].Params = []int{5} }, false},
		{func(im *impl.Image) { im.Procs[3].Params = []int{0, -1} }, false},
		{func(im *impl.Image) { im.Procs[3].Params = []int{1, 1, 1, 1} }, false},
		{func(im *impl.Image) { im.Procs[3].Lent = []int{1} }, true},
		{func(im *impl.Image) { im.Procs[3].Lent = []int{0, 1} }, true},
		{func(im *impl.Image) { im.Procs[3].Lent = []int{1, 0} }, false},
		{func(im *impl.Image) { im.Procs[3].Lent = []int{0, 0} }, false},
		{func(im *impl.Image) { im.Procs[3].Lent = []int{2} }, false},
		{func(im *impl.Image) { im.Procs[3].Lent = []int{-1} }, false},
		{func(im *impl.Image) { im.Procs[3].Params = []int{1, 0}; im.Procs[3].Lent = []int{1} }, false},
		{func(im *impl.Image) { im.Procs[3].Params = []int{1, 0}; im.Procs[3].Lent = []int{0} }, true},
		{func(im *impl.Image) { im.Decls = nil }, false},
		{func(im *impl.Image) { im.Decls = append(im.Decls, data()) }, false},
		{func(im *impl.Image) { im.Decls[3] = data() }, true},
		{func(im *impl.Image) { im.Decls[3] = arrow(1, 1) }, false},
		{func(im *impl.Image) { im.Decls[3] = dataOf([]int{5}) }, false},
		{func(im *impl.Image) { im.Procs[2].Code = nil }, false},
		{func(im *impl.Image) { im.Procs[2].Code = []impl.Instr{back(6)} }, false},
		{func(im *impl.Image) { im.Procs[0].Code = []impl.Instr{back(6)} }, false},
	} {
		im := changedImage(imageOf(move(0, 0), back(5)), c.change)
		if impl.ValidImage(im) != c.ok || imageFits(im) != c.ok {
			t.Errorf("ValidImage of the image with the change %d = %v", i, !c.ok)
		}
	}
	// What is lent matters for closures alone, and types of registers do not at all.
	closing := imageOf(callTo(3, 2, 0), closeTo(4, 2), tailTo(2, 0))
	lending := changedImage(closing, func(im *impl.Image) { im.Procs[2].Lent = []int{0} })
	if !impl.ValidImage(closing) || impl.ValidImage(lending) || !impl.ValidImage(withInstr(lending, 3, 1, move(0, 0))) {
		t.Error("ValidImage with a closure of a procedure with Lent")
	}
	for _, decls := range badDecls() {
		im := imageOf(back(0))
		im.Decls = decls
		im.Procs = im.Procs[:1]
		if impl.ValidImage(im) {
			t.Errorf("ValidImage with the declarations %v", decls)
		}
	}
}

func TestValidImageAgreesWithTheSecondWay(t *testing.T) {
	m := maker{seed: 14}
	valid, not := 0, 0
	for _, im := range images() {
		if !impl.ValidImage(im) {
			t.Fatalf("ValidImage(%v) = false", im)
		}
		for try := 0; try < 8; try++ {
			other := m.spoilt(im)
			want := imageFits(other)
			if impl.ValidImage(other) != want {
				t.Fatalf("ValidImage(%v) = %v", other, !want)
			}
			if want {
				valid++
			} else {
				not++
			}
		}
	}
	if valid < 3000 || not < 3000 {
		t.Errorf("%d images are valid, and %d are not", valid, not)
	}
}

// tailing is code of a procedure, and its text with tail calls.
type tailing struct {
	code []impl.Instr
	want string
}

func TestTailCallsOfCode(t *testing.T) {
	c := callTo(2, 3, 0, 1)
	for _, x := range []tailing{
		{[]impl.Instr{c, back(2)}, "tail3(0 1) return(2)"},
		{[]impl.Instr{c, back(1)}, "2=call3(0 1) return(1)"},
		{[]impl.Instr{callTo(0, 0), back(0)}, "tail0() return(0)"},
		{[]impl.Instr{callTo(2, 1, 0, 1), back(2)}, "tail1(0 1) return(2)"},
		// Moves of the result, as often as it is, and moves of other registers.
		{[]impl.Instr{c, move(3, 2), back(3)}, "tail3(0 1) 3=move(2) return(3)"},
		{[]impl.Instr{c, move(3, 2), back(2)}, "2=call3(0 1) 3=move(2) return(2)"},
		{[]impl.Instr{c, move(2, 2), back(2)}, "tail3(0 1) 2=move(2) return(2)"},
		{[]impl.Instr{c, move(3, 2), move(2, 3), back(2)}, "tail3(0 1) 3=move(2) 2=move(3) return(2)"},
		{[]impl.Instr{c, move(3, 2), move(4, 3), move(0, 4), back(0)}, "tail3(0 1) 3=move(2) 4=move(3) 0=move(4) return(0)"},
		{[]impl.Instr{c, move(3, 2), move(4, 2), back(4)}, "2=call3(0 1) 3=move(2) 4=move(2) return(4)"},
		{[]impl.Instr{c, move(3, 2), move(4, 2), back(3)}, "2=call3(0 1) 3=move(2) 4=move(2) return(3)"},
		{[]impl.Instr{c, move(1, 0), back(2)}, "2=call3(0 1) 1=move(0) return(2)"},
		{[]impl.Instr{c, move(0, 0), back(2)}, "2=call3(0 1) 0=move(0) return(2)"},
		{[]impl.Instr{c, move(2, 0), back(2)}, "2=call3(0 1) 2=move(0) return(2)"},
		// Jumps, as many as there are, also over what is not followed.
		{[]impl.Instr{c, jump(2), back(2)}, "tail3(0 1) jump2() return(2)"},
		{[]impl.Instr{c, jump(3), printTo(2, 2), back(2)}, "tail3(0 1) jump3() 2=print(2) return(2)"},
		{[]impl.Instr{c, jump(2), printTo(2, 2), back(2)}, "2=call3(0 1) jump2() 2=print(2) return(2)"},
		{[]impl.Instr{c, jump(3), back(2), back(1)}, "2=call3(0 1) jump3() return(2) return(1)"},
		{[]impl.Instr{c, jump(3), back(1), back(2)}, "tail3(0 1) jump3() return(1) return(2)"},
		{[]impl.Instr{c, jump(2), jump(3), jump(5), back(0), jump(6), back(2)}, "tail3(0 1) jump2() jump3() jump5() return(0) jump6() return(2)"},
		{[]impl.Instr{c, move(4, 2), jump(4), printTo(4, 4), move(5, 4), jump(7), move(5, 0), back(5)}, "tail3(0 1) 4=move(2) jump4() 4=print(4) 5=move(4) jump7() 5=move(0) return(5)"},
		{[]impl.Instr{c, jump(2), move(4, 2), jump(5), back(4), move(5, 2), back(5)}, "2=call3(0 1) jump2() 4=move(2) jump5() return(4) 5=move(2) return(5)"},
		// Every other instruction is more than to bring the result back.
		{[]impl.Instr{c, in(impl.OpDrop, 0, 1), back(2)}, "2=call3(0 1) drop(1) return(2)"},
		{[]impl.Instr{c, in(impl.OpDup, 0, 2), back(2)}, "2=call3(0 1) dup(2) return(2)"},
		{[]impl.Instr{c, to(4, impl.OpInt, 1), back(2)}, "2=call3(0 1) 4=int1() return(2)"},
		{[]impl.Instr{c, branch(2, 2), back(2)}, "2=call3(0 1) branch2(2) return(2)"},
		{[]impl.Instr{c, jumping(1, 0, 2, 2), back(2)}, "2=call3(0 1) switch1(0){2 2} return(2)"},
		{[]impl.Instr{c, load(2, 0, 2), back(2)}, "2=call3(0 1) 2=load0(2) return(2)"},
		{[]impl.Instr{c, tailTo(2, 2)}, "2=call3(0 1) tail2(2)"},
		{[]impl.Instr{to(2, impl.OpApply, 0, 0, 1), back(2)}, "2=apply(0 1) return(2)"},
		{[]impl.Instr{closeTo(2, 2), back(2)}, "2=close2() return(2)"},
		// Several calls, and code that cannot be reached.
		{[]impl.Instr{c, c, back(2)}, "2=call3(0 1) tail3(0 1) return(2)"},
		{[]impl.Instr{branch(4, 0), c, move(4, 2), jump(6), callTo(3, 2, 1), move(4, 3), back(4)}, "branch4(0) tail3(0 1) 4=move(2) jump6() tail2(1) 4=move(3) return(4)"},
		{[]impl.Instr{branch(4, 0), c, move(4, 2), jump(6), callTo(3, 2, 1), move(4, 2), back(4)}, "branch4(0) tail3(0 1) 4=move(2) jump6() 3=call2(1) 4=move(2) return(4)"},
		{[]impl.Instr{back(0), c, back(2)}, "return(0) tail3(0 1) return(2)"},
		{[]impl.Instr{jump(3), c, move(3, 2), back(3)}, "jump3() tail3(0 1) 3=move(2) return(3)"},
		{[]impl.Instr{c, back(2), back(0)}, "tail3(0 1) return(2) return(0)"},
		{[]impl.Instr{tailTo(3, 0, 1), c, back(2)}, "tail3(0 1) tail3(0 1) return(2)"},
	} {
		im := imageOf(x.code...)
		out := tailed(t, im)
		if got := showCode(out.Procs[3].Code); got != x.want {
			t.Errorf("TailCalls of %s has %s, want %s", showCode(x.code), got, x.want)
		}
		if out.Procs[3].Code = im.Procs[3].Code; text(out) != text(im) {
			t.Errorf("TailCalls of %s changes more than the code: %v", showCode(x.code), out)
		}
	}
}

func TestTailCallsOfAllProcedures(t *testing.T) {
	im := imageOf(callTo(2, 3, 0, 1), back(2))
	im.Procs[0].Code = []impl.Instr{callTo(1, 0), move(0, 1), back(0)}
	im.Procs[1].Code = []impl.Instr{callTo(1, 1, 0, 1), back(1)}
	im.Procs[2].Code = []impl.Instr{callTo(5, 2, 0), back(5)}
	out := tailed(t, im)
	for f, want := range []string{"tail0() 0=move(1) return(0)", "tail1(0 1) return(1)", "tail2(0) return(5)", "tail3(0 1) return(2)"} {
		if got := showCode(out.Procs[f].Code); got != want {
			t.Errorf("TailCalls has %s, want %s", got, want)
		}
	}
	if out.Procs[1].Regs != 6 || !same(out.Procs[1].Lent, 0) || !same(out.Procs[1].Params, 1, 1) || out.Procs[1].Result != 1 || text(out.Decls) != text(im.Decls) {
		t.Errorf("TailCalls = %v", out)
	}
	// From the first of the longest code to its end.
	long := imageOf(callTo(0, 2, 0))
	long.Procs[3].Code = append(long.Procs[3].Code, longCode(1999)...)
	if showInstr(tailed(t, long).Procs[3].Code[0]) != "tail2(0)" {
		t.Error("TailCalls of a call with 1998 moves after it")
	}
}

// reaching is code of a procedure, and what is reached of it.
type reaching struct {
	code []impl.Instr
	want []int
}

func TestReachedCodeOfCode(t *testing.T) {
	m := move(0, 0)
	for _, x := range []reaching{
		{[]impl.Instr{back(0)}, []int{0}},
		{[]impl.Instr{tailTo(2, 0)}, []int{0}},
		{[]impl.Instr{m, m, back(0)}, []int{0, 1, 2}},
		{[]impl.Instr{back(0), m, back(0)}, []int{0}},
		{[]impl.Instr{tailTo(2, 0), m, back(0)}, []int{0}},
		{[]impl.Instr{m, back(0), back(0)}, []int{0, 1}},
		{[]impl.Instr{jump(1), m, back(0)}, []int{0, 1, 2}},
		{[]impl.Instr{jump(2), m, back(0)}, []int{0, 2}},
		{[]impl.Instr{jump(3), m, m, jump(5), m, back(0)}, []int{0, 3, 5}},
		{[]impl.Instr{branch(2, 0), m, back(0)}, []int{0, 1, 2}},
		{[]impl.Instr{branch(2, 0), back(0), m, back(0)}, []int{0, 1, 2, 3}},
		{[]impl.Instr{branch(1, 0), back(0), m, back(0)}, []int{0, 1}},
		{[]impl.Instr{branch(3, 0), back(0), m, back(0)}, []int{0, 1, 3}},
		{[]impl.Instr{branch(3, 0), jump(4), m, back(0), back(0)}, []int{0, 1, 3, 4}},
		{[]impl.Instr{jumping(1, 0, 2, 4), m, back(0), m, back(0)}, []int{0, 2, 4}},
		{[]impl.Instr{jumping(1, 0, 4, 2), m, back(0), m, back(0)}, []int{0, 2, 4}},
		{[]impl.Instr{jumping(1, 0, 3, 3), m, back(0), m, back(0)}, []int{0, 3, 4}},
		{[]impl.Instr{jumping(3, 0, 2, 4, 6), m, back(0), m, back(0), m, back(0)}, []int{0, 2, 4, 6}},
		// What only code that cannot be reached leads to is not reached.
		{[]impl.Instr{back(0), branch(3, 0), back(0), back(0)}, []int{0}},
		{[]impl.Instr{jump(4), jump(3), m, m, back(0), m, back(0)}, []int{0, 4}},
		{[]impl.Instr{jump(4), jumping(1, 0, 2, 3), back(0), back(0), back(0)}, []int{0, 4}},
	} {
		im := imageOf(x.code...)
		if got := impl.ReachedCode(im, 3); !same(got, x.want...) {
			t.Errorf("ReachedCode of %s = %v, want %v", showCode(x.code), got, x.want)
		}
		if got := impl.ReachedCode(im, 0); !same(got, 0, 1) {
			t.Errorf("ReachedCode of the procedure 0 = %v", got)
		}
	}
	for _, c := range instrRules() {
		if !c.ok || c.x.Op == impl.OpReturn || c.x.Op == impl.OpTail || c.x.Op == impl.OpJump || c.x.Op == impl.OpSwitch {
			continue
		}
		if got := impl.ReachedCode(amongOthers(c.x), 3); !same(got, 0, 1, 2, 3, 4, 5) {
			t.Errorf("ReachedCode with %s = %v", showInstr(c.x), got)
		}
	}
}

func TestFlatCodeOfInvalidArguments(t *testing.T) {
	im := imageOf(callTo(2, 3, 0, 1), back(2))
	for _, f := range oddNumbers() {
		if got := impl.ReachedCode(im, f); len(got) > 0 && f != 0 && f != 1 {
			t.Errorf("ReachedCode of the procedure %d = %v", f, got)
		}
	}
	for _, f := range []int{2, 3} {
		if len(impl.ReachedCode(im, f)) == 0 {
			t.Errorf("ReachedCode of the procedure %d is empty", f)
		}
	}
	var bad []impl.Image
	for _, c := range instrRules() {
		if !c.ok {
			bad = append(bad, amongOthers(c.x))
		}
	}
	m := maker{seed: 3}
	for _, good := range images()[:2000] {
		if other := m.spoilt(good); !imageFits(other) {
			bad = append(bad, other)
		}
	}
	bad = append(bad, impl.Image{}, imageOf(), imageOf(longCode(2001)...))
	for _, im := range bad {
		if out, ok := impl.TailCalls(im); ok || text(out) != text(impl.Image{}) {
			t.Fatalf("TailCalls(%v) = %v, %v", im, out, ok)
		}
		for f := -1; f <= 4; f++ {
			if got := impl.ReachedCode(im, f); len(got) > 0 {
				t.Fatalf("ReachedCode(%v, %d) = %v", im, f, got)
			}
		}
	}
	// Each procedure of an image must be valid, and not only the one that is asked for.
	if other := withInstr(im, 0, 1, back(6)); len(impl.ReachedCode(other, 3)) > 0 {
		t.Error("ReachedCode of a procedure beside one that is not valid")
	}
}

// countOps returns the number of instructions of an image that have one of some operations.
func countOps(im impl.Image, ops ...int) int {
	n := 0
	for _, p := range im.Procs {
		for _, x := range p.Code {
			if has(ops, x.Op) {
				n++
			}
		}
	}
	return n
}

func TestP112FlatCodeIsValid(t *testing.T) {
	for _, n := range balancedVariants() {
		im := flattened(t, n)
		if !impl.ValidImage(im) || len(im.Procs) != len(n.Routines) || text(im.Decls) != text(n.Decls) {
			t.Fatalf("Flatten(%v) = %v", n, im)
		}
		for f, p := range im.Procs {
			r := n.Routines[f]
			if !same(p.Params, r.Params...) || !same(p.Lent, r.Lent...) || p.Result != r.Result || countOps(impl.Image{Procs: []impl.Proc{p}}, impl.OpReturn) != 1 {
				t.Fatalf("Flatten(%v) = %v", n, im)
			}
		}
	}
}

func TestP113AllFlatCodeCanBeReached(t *testing.T) {
	for _, im := range flatImages() {
		for f, p := range im.Procs {
			reached := impl.ReachedCode(im, f)
			if len(reached) != len(p.Code) {
				t.Fatalf("ReachedCode(%v, %d) = %v", im, f, reached)
			}
			for at := range p.Code {
				if reached[at] != at {
					t.Fatalf("ReachedCode(%v, %d) = %v", im, f, reached)
				}
			}
		}
	}
}

func TestP114EachCountingStepIsOneInstruction(t *testing.T) {
	seen := make([]int, 4)
	for _, n := range balancedVariants() {
		im := flattened(t, n)
		for k, many := range impl.CountsOf(n) {
			seen[k] += many
			if countOps(im, impl.OpDup+k) != many {
				t.Fatalf("Flatten(%v) = %v, with %d instructions of the kind %d", n, im, many, k)
			}
		}
	}
	for k, many := range seen {
		if many < 150 {
			t.Errorf("only %d counting steps are of the kind %d", many, k)
		}
	}
}

func TestP116ImagesCanHaveRegistersToSpare(t *testing.T) {
	for _, im := range images() {
		more := changedImage(im, func(im *impl.Image) {
			for f := range im.Procs {
				im.Procs[f].Regs++
			}
		})
		if !impl.ValidImage(more) {
			t.Fatalf("ValidImage(%v) = false", more)
		}
		for f := range more.Procs {
			full := changedImage(im, func(im *impl.Image) { im.Procs[f].Regs = 2000 })
			tooFull := changedImage(im, func(im *impl.Image) { im.Procs[f].Regs = 2001 })
			if !impl.ValidImage(full) || impl.ValidImage(tooFull) {
				t.Fatalf("ValidImage with 2000 or 2001 registers of %v", im)
			}
		}
	}
}

func TestP117JumpsGoForward(t *testing.T) {
	jumps := 0
	eachCode(func(im impl.Image, f int, code []impl.Instr) {
		for at, x := range code {
			targets := x.Jumps
			if x.Op == impl.OpBranch || x.Op == impl.OpJump {
				targets = []int{x.Num}
			}
			for k, target := range targets {
				jumps++
				if target <= at || target >= len(code) {
					t.Fatalf("the valid image %v has a jump from %d to %d", im, at, target)
				}
				if jumps%7 > 0 {
					continue
				}
				for _, wrong := range []int{at, at - 1, 0, len(code)} {
					y := copyInstr(x)
					if x.Op == impl.OpSwitch {
						y.Jumps[k] = wrong
					} else {
						y.Num = wrong
					}
					if impl.ValidImage(withInstr(im, f, at, y)) {
						t.Fatalf("ValidImage(%v) with a jump from %d to %d", im, at, wrong)
					}
				}
			}
		}
	})
	if jumps < 3000 {
		t.Errorf("only %d jumps", jumps)
	}
}

func TestP118TailCallsTakeThePlaceOfCalls(t *testing.T) {
	changed := 0
	for _, im := range images() {
		out := tailed(t, im)
		if !impl.ValidImage(out) || text(out) != text(tailMeaning(im)) {
			t.Fatalf("TailCalls(%v) = %v", im, out)
		}
		for f, p := range out.Procs {
			if len(p.Code) != len(im.Procs[f].Code) || countOps(impl.Image{Procs: []impl.Proc{p}}, impl.OpCall, impl.OpTail) != countOps(impl.Image{Procs: im.Procs[f : f+1]}, impl.OpCall, impl.OpTail) {
				t.Fatalf("TailCalls(%v) = %v", im, out)
			}
		}
		changed += countOps(im, impl.OpCall) - countOps(out, impl.OpCall)
	}
	if changed < 300 {
		t.Errorf("only %d calls become tail calls", changed)
	}
}

func TestP119AllLastCallsBecomeTailCallsAtOnce(t *testing.T) {
	for _, im := range images() {
		out := tailed(t, im)
		if again := tailed(t, out); text(again) != text(out) {
			t.Fatalf("TailCalls(%v) = %v, and TailCalls of it is %v", im, out, again)
		}
	}
}

func TestP120TailCallsDoWhatCallsDo(t *testing.T) {
	done, spent := 0, 0
	for i, im := range verifiedImages() {
		tail := tailed(t, im)
		if countOps(tail, impl.OpTail) == countOps(im, impl.OpTail) {
			continue
		}
		for _, most := range []int{0, 1, 2, 3 + i%37, 40} {
			got, want := ran(t, tail, most), ran(t, im, most)
			if text(got) != text(want) {
				t.Fatalf("Execute of TailCalls(%v) with %d calls = %v, want %v", im, most, got, want)
			}
			if got.Status == impl.Done {
				done++
			} else {
				spent++
			}
		}
	}
	if done < 1000 || spent < 1000 {
		t.Errorf("%d runs with tail calls end, and %d are cut off", done, spent)
	}
	// An image that is not verified may do something else: here something is owned when the call begins.
	im := imageOf(conTo(1, 0), callTo(2, 2, 1), move(0, 2), back(0))
	im.Procs[3].Params, im.Procs[3].Result = nil, 0
	im.Procs[0].Code = []impl.Instr{conTo(1, 0), callTo(0, 0), back(0)}
	tail := tailed(t, im)
	if impl.Verified(im) || text(ran(t, tail, 40)) == text(ran(t, im, 40)) {
		t.Errorf("Execute of TailCalls = %v", ran(t, tail, 40))
	}
}

func TestP121ReachedCodeGoesOn(t *testing.T) {
	eachCode(func(im impl.Image, f int, code []impl.Instr) {
		reached := impl.ReachedCode(im, f)
		if !ascends(reached) || len(reached) == 0 || reached[0] != 0 || !same(reached, reachedMeaning(code)...) {
			t.Fatalf("ReachedCode(%v, %d) = %v", im, f, reached)
		}
		for _, at := range reached {
			switch code[at].Op {
			case impl.OpReturn, impl.OpTail, impl.OpJump, impl.OpSwitch:
			default:
				if !has(reached, at+1) {
					t.Fatalf("ReachedCode(%v, %d) = %v", im, f, reached)
				}
			}
		}
	})
}

func TestP122TailCallsEndCode(t *testing.T) {
	fewer := 0
	for _, im := range images() {
		out := tailed(t, im)
		for f := range im.Procs {
			before, now := impl.ReachedCode(im, f), impl.ReachedCode(out, f)
			if !partOf(now, before) {
				t.Fatalf("ReachedCode of TailCalls(%v) = %v, and it was %v", im, now, before)
			}
			if len(now) < len(before) {
				fewer++
			}
		}
	}
	if fewer < 100 {
		t.Errorf("only %d procedures have less code that can be reached", fewer)
	}
}
