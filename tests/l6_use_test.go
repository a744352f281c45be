package tests

import (
	"testing"

	"loop.example/refcountml/impl"
)

// usedNumbers counts, for each number, how often it is used in a block from a step on.
func usedNumbers(b impl.Block, k int, counts map[int]int) {
	for _, s := range b.Steps[k:] {
		usedByStep(s, counts)
	}
	counts[b.Result]++
}

// usedByStep counts, for each number, how often a step uses it.
func usedByStep(s impl.Step, counts map[int]int) {
	if s.Op == impl.OpDup || s.Op == impl.OpDrop || s.Op == impl.OpOpen || s.Op == impl.OpReuse {
		return
	}
	for _, v := range s.Args {
		counts[v]++
	}
	for _, kid := range s.Kids {
		usedNumbers(kid, 0, counts)
	}
}

// below returns the numbers in 0..n-1 that are counted, ascending, for an n that is not large.
func below(counts map[int]int, n int) []int {
	var out []int
	for v := 0; v < n; v++ {
		if counts[v] > 0 {
			out = append(out, v)
		}
	}
	return out
}

// tail returns a block without its first steps.
func tail(b impl.Block, k int) impl.Block {
	return impl.Block{Steps: b.Steps[k:], Result: b.Result}
}

func TestUsesOfAllBlocks(t *testing.T) {
	for _, b := range rawBlocks() {
		for k := range len(b.Steps) + 1 {
			if k > 20 && k < len(b.Steps)-20 {
				continue
			}
			counts := make(map[int]int)
			usedNumbers(b, k, counts)
			for _, n := range []int{-1, 0, 1, 2, 5, 40} {
				if used := impl.UsedFrom(b, n, k); !same(used, below(counts, n)...) {
					t.Fatalf("UsedFrom(%s, %d, %d) = %v, want %v", show(b), n, k, used, below(counts, n))
				}
			}
			for v := -3; v <= 12; v++ {
				if n := impl.UsesOf(tail(b, k), v); n != counts[v] {
					t.Fatalf("UsesOf(%s, %d) = %d, want %d", show(tail(b, k)), v, n, counts[v])
				}
			}
		}
	}
}

// useBlock has steps of all kinds that use or count variables, or define one.
func useBlock() impl.Block {
	first := block(2, st(impl.OpDup, 0, 6), st(impl.OpAdd, 0, 5, 2))
	second := block(4, choice(impl.OpIf, 0, 3, block(7), block(4, st(impl.OpPrint, 0, 8))), st(impl.OpDrop, 0, 9))
	return block(5,
		st(impl.OpDrop, 0, 1),
		st(impl.OpAdd, 0, 4, 0),
		into(st(impl.OpCon, 1, 4, 4), 12),
		choice(impl.OpMatch, 1, 0, first, second),
		st(impl.OpOpen, 0, 10),
		st(impl.OpReuse, 0, 5),
		st(impl.OpPrint, 0, 3),
	)
}

func TestUses(t *testing.T) {
	b := useBlock()
	for _, c := range []struct {
		n, k int
		want []int
	}{
		{100, 0, []int{0, 2, 3, 4, 5, 7, 8}}, {1 << 62, 0, []int{0, 2, 3, 4, 5, 7, 8}}, {8, 0, []int{0, 2, 3, 4, 5, 7}}, {3, 0, []int{0, 2}}, {1, 0, []int{0}}, {0, 0, nil}, {-1, 0, nil}, {-1 << 63, 0, nil},
		{100, 1, []int{0, 2, 3, 4, 5, 7, 8}}, {100, 3, []int{0, 2, 3, 4, 5, 7, 8}}, {100, 4, []int{3, 5}}, {100, 6, []int{3, 5}}, {100, 7, []int{5}}, {5, 7, nil},
		{100, 8, nil}, {100, -1, nil}, {100, 1 << 62, nil}, {100, -1 << 63, nil},
	} {
		if used := impl.UsedFrom(b, c.n, c.k); !same(used, c.want...) {
			t.Errorf("UsedFrom less than %d from %d on = %v, want %v", c.n, c.k, used, c.want)
		}
		if used := impl.UsedIn(b, c.n); c.k == 0 && !same(used, c.want...) {
			t.Errorf("UsedIn less than %d = %v, want %v", c.n, used, c.want)
		}
	}
	for v, want := range [][2]int{{2, 3}, {0, -1}, {2, 3}, {2, 6}, {5, 3}, {2, 7}, {0, -1}, {1, 3}, {1, 3}, {0, -1}, {0, -1}, {0, -1}, {0, -1}} {
		if impl.UsesOf(b, v) != want[0] || impl.LastUse(b, v) != want[1] {
			t.Errorf("UsesOf and LastUse of %d = %d and %d, want %v", v, impl.UsesOf(b, v), impl.LastUse(b, v), want)
		}
	}
	for _, v := range []int{-1, 99, 1 << 62, -1 << 63} {
		if impl.UsesOf(b, v) != 0 || impl.LastUse(b, v) != -1 {
			t.Errorf("UsesOf and LastUse of %d = %d and %d", v, impl.UsesOf(b, v), impl.LastUse(b, v))
		}
	}
}

func TestUsesOfTheExample(t *testing.T) {
	b := normalOf(t, sumProgram()).Routines[1].Body
	two := b.Steps[0].Kids[1]
	if !same(impl.UsedIn(b, 1), 0) || !same(impl.UsedIn(two, 3), 1, 2) || !same(impl.UsedFrom(two, 3, 1), 1) || len(impl.UsedFrom(two, 3, 2)) != 0 {
		t.Error("UsedIn or UsedFrom of the sum of a list")
	}
	if impl.UsesOf(b, 1) != 3 || impl.LastUse(b, 1) != 1 || impl.LastUse(b, 0) != 0 || impl.LastUse(two, 1) != 1 || impl.LastUse(two, 2) != 0 || impl.LastUse(two, 4) != 2 {
		t.Error("UsesOf or LastUse of the sum of a list")
	}
	empty := impl.Block{Result: 3}
	if !same(impl.UsedIn(empty, 4), 3) || len(impl.UsedIn(empty, 3)) != 0 || impl.UsesOf(empty, 3) != 1 || impl.LastUse(empty, 3) != 0 || impl.LastUse(empty, 0) != -1 || len(impl.UsedFrom(empty, 4, 1)) != 0 {
		t.Error("uses of a block without steps")
	}
}

func TestCountingStepsUseNothing(t *testing.T) {
	for op := -1; op <= 26; op++ {
		s := impl.Step{Op: op, Num: 4, Into: 6, Args: []int{3, 7, 3}, Kids: []impl.Block{block(2)}}
		b := block(1, s)
		uses, used, last := 2, []int{1, 2, 3, 7}, 0
		if op >= impl.OpDup && op <= impl.OpReuse {
			uses, used, last = 0, []int{1}, -1
		}
		if impl.UsesOf(b, 3) != uses || !same(impl.UsedIn(b, 9), used...) || impl.LastUse(b, 7) != last || impl.LastUse(b, 2) != last {
			t.Errorf("a step with the operation %d uses %v, and 3 %d times", op, impl.UsedIn(b, 9), impl.UsesOf(b, 3))
		}
	}
}

func TestUsesAtTheLimit(t *testing.T) {
	for _, b := range tooLong() {
		if len(impl.UsedIn(b, 9)) != 0 || len(impl.UsedFrom(b, 9, 0)) != 0 || len(impl.UsedFrom(b, 9, 1)) != 0 || impl.UsesOf(b, 0) != -1 || impl.LastUse(b, 0) != -1 || impl.UsesOf(b, 7) != -1 || impl.LastUse(b, 7) != -1 {
			t.Error("uses of a block that is too long")
		}
	}
	wide, deep := wideBlock(600), deepBlock(600)
	if !same(impl.UsedIn(wide, 9), 0) || !same(impl.UsedFrom(wide, 9, 600), 0) || len(impl.UsedFrom(wide, 9, 601)) != 0 || impl.UsesOf(wide, 0) != 1 || impl.LastUse(wide, 0) != 600 {
		t.Error("uses of a block with 600 steps")
	}
	if !same(impl.UsedIn(deep, 9), 0) || impl.UsesOf(deep, 0) != 600+600+601 || impl.LastUse(deep, 0) != 1 {
		t.Errorf("UsesOf a deep block = %d", impl.UsesOf(deep, 0))
	}
	// Many different arguments, some of them more than once and none of them in order.
	many := block(-1, st(impl.OpCall, 0))
	for n := 0; n < 100000; n++ {
		many.Steps[0].Args = append(many.Steps[0].Args, n*7919%100003-3)
	}
	if used := impl.UsedIn(many, 1<<62); len(used) < 99990 || !ascends(used) || used[0] < 0 {
		t.Errorf("a step with many arguments uses %d", len(used))
	}
}

func TestP57AllIsUsedFromTheFirstStepOn(t *testing.T) {
	for _, b := range append(rawBlocks(), tooLong()...) {
		for _, n := range []int{-1, 0, 1, 3, 8, 30, 1 << 62} {
			used := impl.UsedIn(b, n)
			if text(used) != text(impl.UsedFrom(b, n, 0)) || !ascends(used) {
				t.Fatalf("UsedIn(%s, %d) = %v, and UsedFrom 0 is %v", show(b), n, used, impl.UsedFrom(b, n, 0))
			}
		}
	}
}

func TestP58MoreVariablesAreSeenWithAGreaterBound(t *testing.T) {
	for _, b := range rawBlocks() {
		for n := 0; n <= 30; n++ {
			var want []int
			for _, v := range impl.UsedIn(b, n+1) {
				if v != n {
					want = append(want, v)
				}
			}
			if used := impl.UsedIn(b, n); !same(used, want...) {
				t.Fatalf("UsedIn(%s, %d) = %v, want %v", show(b), n, used, want)
			}
		}
	}
}

func TestP59LessIsUsedLater(t *testing.T) {
	less := 0
	for _, b := range rawBlocks() {
		for k := 1; k <= len(b.Steps) && k < 30; k++ {
			before, used := impl.UsedFrom(b, 50, k-1), impl.UsedFrom(b, 50, k)
			if !partOf(used, before) {
				t.Fatalf("UsedFrom(%s, 50, %d) = %v, and from the step before %v", show(b), k, used, before)
			}
			if len(used) < len(before) {
				less++
			}
		}
	}
	if less < 500 {
		t.Errorf("less is used only %d times", less)
	}
}

func TestP60StepsUseTheirArguments(t *testing.T) {
	for _, b := range rawBlocks() {
		for k, s := range b.Steps {
			if k > 30 || s.Op >= impl.OpDup && s.Op <= impl.OpReuse {
				continue
			}
			for _, n := range []int{0, 2, 7, 100} {
				used := impl.UsedFrom(b, n, k)
				for _, v := range s.Args {
					if has(used, v) != (v >= 0 && v < n) {
						t.Fatalf("UsedFrom(%s, %d, %d) = %v", show(b), n, k, used)
					}
				}
			}
		}
	}
}

func TestP61WhatIsUsedIsUsedAtLeastOnce(t *testing.T) {
	for _, b := range rawBlocks() {
		used := impl.UsedIn(b, 60)
		for v := 0; v < 60; v++ {
			if has(used, v) != (impl.UsesOf(b, v) > 0) {
				t.Fatalf("UsedIn(%s, 60) = %v, and %d is used %d times", show(b), used, v, impl.UsesOf(b, v))
			}
		}
	}
}

func TestP62UsesAddUp(t *testing.T) {
	for _, b := range rawBlocks() {
		if len(b.Steps) == 0 {
			continue
		}
		counts := make(map[int]int)
		usedByStep(b.Steps[0], counts)
		for v := 0; v <= 20; v++ {
			if n := impl.UsesOf(b, v); n != impl.UsesOf(tail(b, 1), v)+counts[v] {
				t.Fatalf("UsesOf(%s, %d) = %d, and without the first step %d", show(b), v, n, impl.UsesOf(tail(b, 1), v))
			}
		}
	}
}

func TestP63AfterTheLastUseThereIsNone(t *testing.T) {
	results, steps := 0, 0
	for _, b := range rawBlocks() {
		for v := 0; v <= 20; v++ {
			k := impl.LastUse(b, v)
			if k < 0 {
				continue
			}
			if k > len(b.Steps) || !has(impl.UsedFrom(b, v+1, k), v) || has(impl.UsedFrom(b, v+1, k+1), v) {
				t.Fatalf("LastUse(%s, %d) = %d", show(b), v, k)
			}
			if (k == len(b.Steps)) != (b.Result == v) {
				t.Fatalf("LastUse(%s, %d) = %d, and the Result is %d", show(b), v, k, b.Result)
			}
			if k == len(b.Steps) {
				results++
			} else {
				steps++
			}
		}
	}
	if results < 300 || steps < 300 {
		t.Errorf("%d results and %d steps are last uses", results, steps)
	}
}

func TestP64UnusedVariablesHaveNoLastUse(t *testing.T) {
	unused := 0
	for _, b := range append(rawBlocks(), tooLong()...) {
		for v := -3; v <= 20; v++ {
			uses, last := impl.UsesOf(b, v), impl.LastUse(b, v)
			if (last == -1) != (uses <= 0) || last < -1 {
				t.Fatalf("LastUse %d = %d, and it is used %d times", v, last, uses)
			}
			if uses <= 0 {
				unused++
			}
		}
	}
	if unused < 500 {
		t.Errorf("only %d are unused", unused)
	}
}
