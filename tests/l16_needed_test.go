package tests

import (
	"testing"

	"loop.example/refcountml/impl"
)

// using is code of a procedure, and the text of the registers that may be used from each instruction on.
type using struct {
	code []impl.Instr
	want string
}

func TestLiveRegsOfCode(t *testing.T) {
	for _, c := range []using{
		{[]impl.Instr{back(3)}, "[[3]]"},
		{[]impl.Instr{tailTo(0)}, "[[]]"},
		{[]impl.Instr{tailTo(3, 4, 1)}, "[[1 4]]"},
		{[]impl.Instr{tailTo(3, 2, 2)}, "[[2]]"},
		// What is set is not used before, but where it is used as well.
		{[]impl.Instr{to(2, impl.OpInt, 1), back(2)}, "[[] [2]]"},
		{[]impl.Instr{to(2, impl.OpInt, 1), back(1)}, "[[1] [1]]"},
		{[]impl.Instr{printTo(2, 2), back(2)}, "[[2] [2]]"},
		{[]impl.Instr{printTo(2, 5), back(2)}, "[[5] [2]]"},
		{[]impl.Instr{to(0, impl.OpAdd, 0, 4, 3), back(0)}, "[[3 4] [0]]"},
		{[]impl.Instr{conTo(3, 3, 5, 3, 1), back(3)}, "[[1 3 5] [3]]"},
		{[]impl.Instr{intoOf(4, conTo(3, 1, 5, 1)), back(3)}, "[[1 5] [3]]"},
		{[]impl.Instr{callTo(3, 3, 1, 0), back(3)}, "[[0 1] [3]]"},
		{[]impl.Instr{callTo(3, 1, 1, 0), back(2)}, "[[0 1 2] [2]]"},
		{[]impl.Instr{closeTo(3, 3, 5), back(3)}, "[[5] [3]]"},
		{[]impl.Instr{to(3, impl.OpApply, 0, 2, 4), back(3)}, "[[2 4] [3]]"},
		{[]impl.Instr{move(3, 4), back(3)}, "[[4] [3]]"},
		{[]impl.Instr{move(3, 3), back(3)}, "[[3] [3]]"},
		{[]impl.Instr{move(3, 4), move(3, 5), back(3)}, "[[4 5] [5] [3]]"},
		{[]impl.Instr{load(3, 2, 4), back(3)}, "[[4] [3]]"},
		{[]impl.Instr{load(4, 2, 4), back(4)}, "[[4] [4]]"},
		{[]impl.Instr{in(impl.OpOpen, 0, 5, 1, 1), back(2)}, "[[1 2 5] [2]]"},
		{[]impl.Instr{in(impl.OpReuse, 0, 5, 1, 3), back(1)}, "[[1 3 5] [1]]"},
		// Registers that are only dupped or dropped.
		{[]impl.Instr{in(impl.OpDup, 0, 4), back(0)}, "[[0] [0]]"},
		{[]impl.Instr{in(impl.OpDrop, 0, 4), back(0)}, "[[0] [0]]"},
		{[]impl.Instr{in(impl.OpDup, 0, 4), in(impl.OpDrop, 0, 4), back(4)}, "[[4] [4] [4]]"},
		{[]impl.Instr{in(impl.OpDup, 0, 4), move(4, 1), in(impl.OpDrop, 0, 4), back(0)}, "[[0 1] [0 1] [0] [0]]"},
		// Jumps of all kinds; Dst of an instruction that sets nothing is no register that is set.
		{[]impl.Instr{jump(2), printTo(1, 4), back(0)}, "[[0] [0 4] [0]]"},
		{[]impl.Instr{branch(2, 3), printTo(1, 4), back(0)}, "[[0 3 4] [0 4] [0]]"},
		{[]impl.Instr{branch(3, 3), to(0, impl.OpInt, 1), back(0), back(5)}, "[[3 5] [] [0] [5]]"},
		{[]impl.Instr{branch(1, 0), back(0)}, "[[0] [0]]"},
		{[]impl.Instr{jumping(1, 5, 1, 2), back(0), back(1)}, "[[0 1 5] [0] [1]]"},
		{[]impl.Instr{jumping(1, 5, 3, 3), back(0), back(1), back(2)}, "[[2 5] [0] [1] [2]]"},
		{[]impl.Instr{jumping(3, 5, 4, 2, 1), back(0), move(1, 4), back(1), back(2)}, "[[0 2 4 5] [0] [4] [1] [2]]"},
		{[]impl.Instr{move(1, 2), branch(3, 0), to(1, impl.OpInt, 7), back(1)}, "[[0 2] [0 1] [] [1]]"},
		// Nothing comes after OpReturn and OpTail, and code that cannot be reached has its own.
		{[]impl.Instr{back(1), printTo(2, 3), back(2)}, "[[1] [3] [2]]"},
		{[]impl.Instr{tailTo(2, 1), back(5)}, "[[1] [5]]"},
	} {
		im := imageOf(c.code...)
		var got [][]int
		for at := range c.code {
			got = append(got, impl.LiveRegs(im, 3, at))
		}
		if text(got) != c.want {
			t.Errorf("LiveRegs of %s = %v, want %s", showCode(c.code), got, c.want)
		}
	}
}

func TestLiveRegsAgreesWithTheSecondWay(t *testing.T) {
	several := 0
	someCode(func(im impl.Image, f int, code []impl.Instr) {
		for at := range code {
			got := impl.LiveRegs(im, f, at)
			if want := liveMeaning(im.Procs[f], at); !sameList(got, want) {
				t.Fatalf("LiveRegs(%v, %d, %d) = %v, want %v", im, f, at, got, want)
			}
			if len(got) > 2 {
				several++
			}
		}
	})
	if several < 300 {
		t.Errorf("only %d times there are more than two registers", several)
	}
}

func TestLiveRegsOfLongCode(t *testing.T) {
	im := longImage(false)
	if !same(impl.LiveRegs(im, 1, 0), 0) || !same(impl.LiveRegs(im, 1, 1997), 1, 1997) || !same(impl.LiveRegs(im, 1, 1996), 1, 1996) || !same(impl.LiveRegs(im, 1, 1999), 1) || !same(impl.LiveRegs(im, 1, 1998), 1) {
		t.Errorf("LiveRegs = %v, %v", impl.LiveRegs(im, 1, 0), impl.LiveRegs(im, 1, 1996))
	}
	// All registers are used after many choices.
	var code []impl.Instr
	for k := 0; k < 900; k++ {
		code = append(code, branch(k+1, 1999-k))
	}
	for k := 0; k < 1099; k++ {
		code = append(code, printTo(0, k+1))
	}
	im = impl.Image{Procs: []impl.Proc{{Regs: 2000, Code: append(code, back(0))}}}
	if live := impl.LiveRegs(im, 0, 0); len(live) != 1999 || live[0] != 1 || live[1998] != 1999 {
		t.Errorf("LiveRegs has %d registers", len(live))
	}
	s, _ := impl.StartState(im, 0)
	if len(impl.NeededCells(im, s)) > 0 || len(impl.Garbage(im, s)) > 0 || len(impl.OwnedCells(im, s)) > 0 {
		t.Error("cells of an empty heap are needed")
	}
}

// needing is code with a call in it, the registers of an outer frame that waits for its result in the register dst and of an inner frame at the same code, and the cells that are needed and owned.
type needing struct {
	code   []impl.Instr
	outer  string
	dst    int
	inner  string
	needed []int
	owned  []int
}

// chains has a cell to which two others point, and a cell alone.
func chains() []impl.Cell {
	return heap(live(2, 0), live(1, 1, 5, 1000), live(1, 1, 6, 1000), live(1, 9))
}

func TestNeededCellsOfFrames(t *testing.T) {
	for _, c := range []needing{
		// A frame that waits for a result uses what comes after the call, but not the register of the result.
		{[]impl.Instr{in(impl.OpDrop, 0, 3), back(2)}, "1001*1 0 1002*1", 4, "1003*1", []int{0, 2}, []int{1, 2, 3}},
		{[]impl.Instr{in(impl.OpDrop, 0, 3), back(2)}, "1001*1 0 1002 1002*1", 2, "1003*1", nil, []int{1, 2, 3}},
		{[]impl.Instr{in(impl.OpDrop, 0, 3), back(2)}, "1001*1 0 1002 1002*1", 1, "1003*1", []int{0, 2}, []int{1, 2, 3}},
		{[]impl.Instr{in(impl.OpDrop, 0, 0), callTo(4, 3, 0, 2), back(4)}, "1001*1 0 1002*1", 5, "1003*1", []int{0, 1, 2, 3}, []int{1, 2, 3}},
		{[]impl.Instr{in(impl.OpDrop, 0, 0), callTo(4, 3, 0, 2), back(4)}, "1001 0 1002*1 1001*1", 0, "1003*1", []int{0, 2, 3}, []int{1, 2, 3}},
		// In the innermost frame the register of the result is one like the others.
		{[]impl.Instr{back(0), back(1)}, "1001*1 7 0 1002*1", 2, "1003*1", []int{3}, []int{1, 2, 3}},
		{[]impl.Instr{back(2), back(0)}, "1001*1 7 0 1002*1", 4, "1003*1 0 1001", []int{0, 1}, []int{1, 2, 3}},
		// What is only dupped and dropped is not needed, and what is not owned can be.
		{[]impl.Instr{in(impl.OpDrop, 0, 0), back(5)}, "1001*1 0 1002*1", 4, "1003*1", nil, []int{1, 2, 3}},
		{[]impl.Instr{in(impl.OpDup, 0, 0), in(impl.OpDrop, 0, 2), back(1)}, "1001*1 0 1002*1", 4, "1003*1 1000", []int{0}, []int{1, 2, 3}},
		{[]impl.Instr{to(4, impl.OpAdd, 0, 0, 1), back(4)}, "1001*1 0 1002*1", 3, "1003*1 1002", []int{0, 2, 3}, []int{1, 2, 3}},
		// Pointers that lead to no live cell, and integers, reach nothing.
		{[]impl.Instr{to(4, impl.OpAdd, 0, 0, 1), back(4)}, "1001*1 0 1002*1 1003*1", 5, "1004 5000", nil, []int{1, 2, 3}},
		{[]impl.Instr{to(4, impl.OpAdd, 0, 0, 1), back(4)}, "1001*1 0 1002*1 1003*1", 5, "-999 999", nil, []int{1, 2, 3}},
	} {
		im := imageOf(c.code...)
		outer, inner := readFrame(1, c.outer), readFrame(0, c.inner)
		inner.Dst = c.dst
		s := impl.State{Status: impl.Running, Calls: 1, Most: 2, Heap: chains(), Frames: []impl.Frame{outer, inner}}
		if !stateFits(im, s) {
			t.Errorf("the state %s is not valid", showState(s))
		}
		for _, status := range []int{impl.Running, impl.Spent, impl.Fault} {
			s.Status = status
			if got := impl.NeededCells(im, s); !same(got, c.needed...) || !same(got, neededMeaning(im, s)...) {
				t.Errorf("NeededCells of %s at %s = %v, want %v", showCode(c.code), showState(s), got, c.needed)
			}
			if got := impl.OwnedCells(im, s); !same(got, c.owned...) {
				t.Errorf("OwnedCells at %s = %v, want %v", showState(s), got, c.owned)
			}
			for i := range s.Heap {
				if has(impl.Garbage(im, s), i) == has(c.needed, i) {
					t.Errorf("Garbage of %s at %s = %v", showCode(c.code), showState(s), impl.Garbage(im, s))
				}
			}
		}
	}
}

func TestCellsOfTheWaitingState(t *testing.T) {
	im, s := waiting()
	// The inner frame is at the end of the procedure 2, and the outer one at a move of its register 0.
	if !same(impl.NeededCells(im, s), 0, 4) || !same(impl.Garbage(im, s), 1) || !same(impl.OwnedCells(im, s), 0, 1, 4) {
		t.Errorf("NeededCells = %v, Garbage = %v, OwnedCells = %v", impl.NeededCells(im, s), impl.Garbage(im, s), impl.OwnedCells(im, s))
	}
	s.Frames[0].At = 0
	if !same(impl.NeededCells(im, s), 0, 4) {
		t.Errorf("NeededCells = %v", impl.NeededCells(im, s))
	}
	s.Frames[0].Regs[0], s.Frames[0].Own[0], s.Heap[0].Count = 1001, 0, 1
	if !same(impl.NeededCells(im, s), 0, 1, 4) || len(impl.Garbage(im, s)) > 0 || !same(impl.OwnedCells(im, s), 1, 4) {
		t.Errorf("NeededCells = %v, Garbage = %v, OwnedCells = %v", impl.NeededCells(im, s), impl.Garbage(im, s), impl.OwnedCells(im, s))
	}
	end(&s)
	if len(impl.NeededCells(im, s)) > 0 || len(impl.Garbage(im, s)) > 0 || len(impl.OwnedCells(im, s)) > 0 {
		t.Error("cells of a state that is done")
	}
}

func TestNeededCellsAgreesWithTheSecondWay(t *testing.T) {
	needed, garbage := 0, 0
	someStates(func(im impl.Image, s impl.State) {
		got, want := impl.NeededCells(im, s), neededMeaning(im, s)
		if !sameList(got, want) {
			t.Fatalf("NeededCells(%v) at %s = %v, want %v", im, showState(s), got, want)
		}
		needed += len(got)
		garbage += len(impl.Garbage(im, s))
	})
	if needed < 10000 || garbage < 5000 {
		t.Errorf("%d cells are needed, and %d are not", needed, garbage)
	}
}

// someCode calls a function for the code of some procedures of valid images.
func someCode(check func(im impl.Image, f int, code []impl.Instr)) {
	many := 0
	eachCode(func(im impl.Image, f int, code []impl.Instr) {
		if many++; many%4 == 0 {
			check(im, f, code)
		}
	})
}

// failsToNeed tells if a function finds cells where an image or a state is not valid.
func failsToNeed(t *testing.T, im impl.Image, s impl.State) {
	t.Helper()
	if len(impl.NeededCells(im, s)) > 0 || len(impl.Garbage(im, s)) > 0 || len(impl.OwnedCells(im, s)) > 0 {
		t.Errorf("NeededCells(%.200s, %.200s) = %v, Garbage = %v, OwnedCells = %v", text(im), text(s), impl.NeededCells(im, s), impl.Garbage(im, s), impl.OwnedCells(im, s))
	}
}

func TestNeededCellsOfInvalidArguments(t *testing.T) {
	im, s := waiting()
	for _, n := range append(oddNumbers(), 2, 3) {
		if got := impl.LiveRegs(im, n, 0); len(got) > 0 != (n == 2 || n == 3 || n == 1) {
			t.Errorf("LiveRegs of the procedure %d = %v", n, got)
		}
		if got := impl.LiveRegs(im, 3, n); len(got) > 0 != (n >= 0 && n <= 2) {
			t.Errorf("LiveRegs at %d = %v", n, got)
		}
	}
	for _, bad := range badImages() {
		for f := -1; f <= 4; f++ {
			for at := -1; at <= 3; at++ {
				if got := impl.LiveRegs(bad, f, at); len(got) > 0 {
					t.Fatalf("LiveRegs(%v, %d, %d) = %v", bad, f, at, got)
				}
			}
		}
		failsToNeed(t, bad, s)
	}
	m := maker{seed: 160}
	for _, x := range scenes() {
		if other := m.spoiltState(x.s); !stateFits(x.im, other) {
			failsToNeed(t, x.im, other)
		}
	}
}

func TestP154LiveRegistersAreUsedFirstOrLater(t *testing.T) {
	someCode(func(im impl.Image, f int, code []impl.Instr) {
		for at, x := range code {
			name := opName(x.Op)
			live := impl.LiveRegs(im, f, at)
			if !ascends(live) || name != "dup" && name != "drop" && !partOf(x.Args, live) || name == "return" && !same(live, x.Args[0]) {
				t.Fatalf("LiveRegs(%v, %d, %d) = %v", im, f, at, live)
			}
		}
	})
}

func TestP155LiveRegistersStayLiveUntilTheyAreSet(t *testing.T) {
	kept, set := 0, 0
	someCode(func(im impl.Image, f int, code []impl.Instr) {
		for at, x := range code {
			switch opName(x.Op) {
			case "return", "tail", "jump", "switch":
				continue
			}
			live := impl.LiveRegs(im, f, at)
			for _, r := range impl.LiveRegs(im, f, at+1) {
				// An instruction that sets no register has the Dst 0, and what it does not set stays.
				if r == x.Dst && setting(x.Op) {
					set++
					if has(live, r) != has(x.Args, r) {
						t.Fatalf("LiveRegs(%v, %d, %d) = %v", im, f, at, live)
					}
					continue
				}
				kept++
				if !has(live, r) {
					t.Fatalf("LiveRegs(%v, %d, %d) = %v", im, f, at, live)
				}
			}
		}
	})
	if kept < 5000 || set < 5000 {
		t.Errorf("%d registers stay live, and %d are set", kept, set)
	}
}

func TestP156FlatCodeUsesWhatIsThere(t *testing.T) {
	for _, im := range flatImages() {
		for f, p := range im.Procs {
			for _, r := range impl.LiveRegs(im, f, 0) {
				if r >= len(p.Params) {
					t.Fatalf("LiveRegs(%v, %d, 0) = %v", im, f, impl.LiveRegs(im, f, 0))
				}
			}
		}
	}
}

func TestP157CellsAreNeededOrGarbage(t *testing.T) {
	someStates(func(im impl.Image, s impl.State) {
		needed, garbage := impl.NeededCells(im, s), impl.Garbage(im, s)
		if !ascends(needed) || !ascends(garbage) || len(needed)+len(garbage) != aliveIn(s.Heap) {
			t.Fatalf("NeededCells of %v at %s = %v, and Garbage = %v", im, showState(s), needed, garbage)
		}
		for i, c := range s.Heap {
			if has(needed, i) && has(garbage, i) || (has(needed, i) || has(garbage, i)) != (c.Count > 0) {
				t.Fatalf("NeededCells of %v at %s = %v, and Garbage = %v", im, showState(s), needed, garbage)
			}
		}
	})
}

// preciseWalks calls a function for each state of runs of images with precise counts, in which nothing is lent.
func preciseWalks(t *testing.T, check func(im impl.Image, s impl.State)) {
	t.Helper()
	var all []impl.Normal
	for i, n := range plains() {
		if unlent, ok := impl.Unlend(n); ok && i%3 > 0 {
			all = append(all, unlent)
		}
	}
	for _, p := range append(listPrograms(), mapProgram(), twiceProgram(), mirrorProgram(), growProgram()) {
		all = append(all, normalOf(t, p))
	}
	for i, n := range all {
		counted, ok := impl.Count(n)
		if !ok {
			continue
		}
		im := flattened(t, counted)
		s, _ := impl.StartState(im, 40-i%30)
		for s.Status == impl.Running {
			check(im, s)
			s, _ = impl.StepState(im, s)
		}
		check(im, s)
	}
}

func TestP158PreciseCountsLeaveNoGarbage(t *testing.T) {
	checked, spent := 0, 0
	preciseWalks(t, func(im impl.Image, s impl.State) {
		if s.Status == impl.Fault {
			t.Fatalf("the run of %v comes to %s", im, showState(s))
		}
		if s.Status == impl.Done {
			return
		}
		switch opName(nextIn(im, s).Op) {
		case "dup", "drop", "load", "move", "jump":
			return
		}
		if s.Status == impl.Spent {
			spent++
		}
		checked += aliveIn(s.Heap)
		if garbage := impl.Garbage(im, s); len(garbage) > 0 {
			t.Fatalf("Garbage of %v at %s = %v", im, showState(s), garbage)
		}
	})
	if checked < 10000 || spent < 30 {
		t.Errorf("only %d cells are not garbage, and %d runs are spent", checked, spent)
	}
	// Late counts do leave some, so that the test can tell them apart.
	late, _ := impl.CountLate(normalOf(t, mapProgram()))
	im := flattened(t, late)
	s, _ := impl.StartState(im, 40)
	garbage := 0
	for s.Status == impl.Running {
		if name := opName(nextIn(im, s).Op); name == "call" || name == "apply" || name == "return" {
			garbage += len(impl.Garbage(im, s))
		}
		s, _ = impl.StepState(im, s)
	}
	if garbage == 0 {
		t.Error("late counts leave no garbage")
	}
}

func TestP159GarbageIsOwnedAllTheSame(t *testing.T) {
	someStates(func(im impl.Image, s impl.State) {
		var words []int
		for _, i := range impl.OwnedCells(im, s) {
			words = append(words, 1000+i)
		}
		reached := impl.ReachOf(s.Heap, words)
		for _, w := range pointers(s.Heap) {
			if !has(reached, w-1000) {
				t.Fatalf("the cell %d of %s is not reached from OwnedCells %v", w-1000, showState(s), words)
			}
		}
		if !partOf(impl.Garbage(im, s), reached) {
			t.Fatalf("Garbage at %s = %v", showState(s), impl.Garbage(im, s))
		}
	})
}

func TestP160OwnedCellsAreLive(t *testing.T) {
	owned, inner := 0, 0
	someStates(func(im impl.Image, s impl.State) {
		got := impl.OwnedCells(im, s)
		if !ascends(got) {
			t.Fatalf("OwnedCells at %s = %v", showState(s), got)
		}
		refs := refsMeaning(s.Heap)
		for i, c := range s.Heap {
			if has(got, i) != (c.Count > 0 && c.Count > refs[i]) {
				t.Fatalf("OwnedCells at %s = %v", showState(s), got)
			}
			if has(got, i) && impl.RefsOf(s.Heap, i) != refs[i] {
				t.Fatalf("RefsOf %d at %s = %d", i, showState(s), impl.RefsOf(s.Heap, i))
			}
			if c.Count > 0 && c.Count == refs[i] {
				inner++
			}
		}
		owned += len(got)
	})
	if owned < 10000 || inner < 10000 {
		t.Errorf("%d cells are owned, and only fields point to %d", owned, inner)
	}
}

func TestP161NeededRegistersHaveWhatTheyHad(t *testing.T) {
	checked := 0
	check := func(im impl.Image, most int) {
		s, _ := impl.StartState(im, most)
		for s.Status == impl.Running {
			for k, f := range s.Frames {
				for _, r := range impl.LiveRegs(im, f.Proc, f.At) {
					if f.Regs[r] < 1000 || k < len(s.Frames)-1 && s.Frames[k+1].Dst == r {
						continue
					}
					checked++
					if !isThere(s.Heap, f.Regs[r]-1000) {
						t.Fatalf("the register %d of the frame %d of %s in a run of %v", r, k, showState(s), im)
					}
				}
			}
			s, _ = impl.StepState(im, s)
		}
	}
	for i, im := range flatImages() {
		if i%20 == 0 {
			check(im, i%41)
		}
	}
	for i, p := range listPrograms() {
		forms := programForms(p)
		check(flattened(t, forms[i%8]), 40)
	}
	if checked < 5000 {
		t.Errorf("only %d registers have pointers", checked)
	}
}
