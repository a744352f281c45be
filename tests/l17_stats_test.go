package tests

import (
	"testing"

	"loop.example/refcountml/impl"
)

// statsOf returns the numbers of the run of an image.
func statsOf(t *testing.T, im impl.Image, most int) impl.Stats {
	t.Helper()
	c, ok := impl.StatsOf(im, most)
	if !ok {
		t.Fatalf("StatsOf(%v, %d) fails", im, most)
	}
	return c
}

// costing is code of the procedure 0, and the numbers of its run with at most 3 calls: Steps, Allocs, Reuses, Dups, Drops, Peak, Depth and Shared.
type costing struct {
	code []impl.Instr
	want string
}

func TestStatsOfCode(t *testing.T) {
	d, g := in(impl.OpDup, 0, 1), in(impl.OpDrop, 0, 1)
	again := in(impl.OpReuse, 0, 1)
	for _, c := range []costing{
		{[]impl.Instr{back(0)}, "[1 0 0 0 0 0 1 0]"},
		{[]impl.Instr{move(0, 0), jump(3), move(0, 0), back(0)}, "[3 0 0 0 0 0 1 0]"},
		// Cells that are made, and counts.
		{[]impl.Instr{conTo(1, 0), g, back(0)}, "[3 1 0 0 1 1 1 1]"},
		{[]impl.Instr{closeTo(1, 2), g, back(0)}, "[3 1 0 0 1 1 1 1]"},
		{[]impl.Instr{conTo(1, 0), d, d, g, g, g, back(0)}, "[7 1 0 2 3 1 1 3]"},
		{[]impl.Instr{conTo(1, 0), d, g, g, conTo(1, 0), d, g, g, back(0)}, "[9 2 0 2 4 1 1 2]"},
		{[]impl.Instr{conTo(1, 0), conTo(2, 0), g, in(impl.OpDrop, 0, 2), back(0)}, "[5 2 0 0 2 2 1 1]"},
		{[]impl.Instr{conTo(1, 0), conTo(1, 1, 0, 1), conTo(1, 1, 0, 1), g, back(0)}, "[5 3 0 0 1 3 1 1]"},
		{[]impl.Instr{conTo(1, 0), d, conTo(2, 2, 1, 1), in(impl.OpDrop, 0, 2), conTo(1, 0), g, back(0)}, "[7 3 0 1 2 2 1 2]"},
		// Cells that are reused, and those that could be.
		{[]impl.Instr{conTo(1, 0), again, intoOf(1, conTo(2, 0)), in(impl.OpDrop, 0, 2), back(0)}, "[5 1 1 0 1 1 1 1]"},
		{[]impl.Instr{conTo(1, 0), again, conTo(3, 0), intoOf(1, conTo(2, 0)), in(impl.OpDrop, 0, 2), in(impl.OpDrop, 0, 3), back(0)}, "[7 2 1 0 2 2 1 1]"},
		{[]impl.Instr{conTo(1, 0), d, again, intoOf(1, conTo(2, 0)), in(impl.OpDrop, 0, 2), g, back(0)}, "[7 2 0 1 2 2 1 2]"},
		{[]impl.Instr{conTo(1, 0), in(impl.OpOpen, 0, 1), intoOf(1, conTo(2, 0)), in(impl.OpDrop, 0, 2), back(0)}, "[5 2 0 0 1 1 1 1]"},
		// A kept cell is not live, and cells that are taken apart make other counts greater.
		{[]impl.Instr{conTo(1, 0), conTo(2, 1, 0, 1), in(impl.OpReuse, 0, 2, 1), conTo(3, 0), intoOf(2, conTo(4, 1, 0, 0)), g, in(impl.OpDrop, 0, 3), in(impl.OpDrop, 0, 4), back(0)}, "[9 3 1 0 3 3 1 1]"},
		{[]impl.Instr{conTo(1, 0), conTo(2, 1, 0, 1), in(impl.OpDup, 0, 2), in(impl.OpOpen, 0, 2, 1), d, g, g, in(impl.OpDrop, 0, 2), back(0)}, "[9 2 0 2 3 2 1 3]"},
		{[]impl.Instr{conTo(1, 0), closeTo(2, 3, 1), in(impl.OpDup, 0, 2), to(3, impl.OpApply, 0, 2, 0), in(impl.OpDrop, 0, 3), in(impl.OpDrop, 0, 2), back(0)}, "[8 2 0 1 2 2 2 2]"},
		// Frames.
		{[]impl.Instr{callTo(1, 2, 0), callTo(1, 2, 0), back(1)}, "[5 0 0 0 0 0 2 0]"},
		{[]impl.Instr{tailTo(2, 0)}, "[2 0 0 0 0 0 1 0]"},
		{[]impl.Instr{callTo(1, 0), back(1)}, "[4 0 0 0 0 0 4 0]"},
		{[]impl.Instr{tailTo(0)}, "[4 0 0 0 0 0 1 0]"},
		// The instruction that stops the run is a step, and nothing else.
		{[]impl.Instr{g, back(0)}, "[1 0 0 0 0 0 1 0]"},
		{[]impl.Instr{d, back(0)}, "[1 0 0 0 0 0 1 0]"},
		{[]impl.Instr{conTo(1, 0), conTo(1, 0), back(0)}, "[2 1 0 0 0 1 1 1]"},
		{[]impl.Instr{conTo(1, 0), closeTo(1, 2), back(0)}, "[2 1 0 0 0 1 1 1]"},
		{[]impl.Instr{conTo(1, 0), again, intoOf(1, conTo(2, 1, 0, 0)), back(0)}, "[3 1 0 0 0 1 1 1]"},
		{[]impl.Instr{callTo(2, 2, 0), callTo(2, 2, 0), callTo(2, 2, 0), callTo(2, 2, 0), back(2)}, "[7 0 0 0 0 0 2 0]"},
	} {
		im := imageOf(back(0))
		im.Procs[0].Code = c.code
		got := statsOf(t, im, 3)
		if showStats(got) != c.want || got != statsMeaning(im, 3) {
			t.Errorf("StatsOf of %s = %s, in the second way %s, want %s", showCode(c.code), showStats(got), showStats(statsMeaning(im, 3)), c.want)
		}
	}
}

// showStats returns the numbers of a run without their names.
func showStats(c impl.Stats) string {
	return text([]int{c.Steps, c.Allocs, c.Reuses, c.Dups, c.Drops, c.Peak, c.Depth, c.Shared})
}

func TestStatsOfTheExample(t *testing.T) {
	forms := programForms(sumProgram())
	for i, want := range []impl.Stats{
		{Steps: 31, Allocs: 3, Dups: 2, Drops: 3, Peak: 3, Depth: 4, Shared: 2},
		{Steps: 41, Allocs: 3, Dups: 7, Drops: 8, Peak: 3, Depth: 4, Shared: 4},
		{Steps: 29, Allocs: 3, Drops: 1, Peak: 3, Depth: 4, Shared: 1},
		{Steps: 29, Allocs: 3, Drops: 1, Peak: 3, Depth: 4, Shared: 1},
		{Steps: 31, Allocs: 3, Dups: 2, Drops: 3, Peak: 3, Depth: 4, Shared: 2},
	} {
		if got := statsOf(t, flattened(t, forms[i]), 40); got != want {
			t.Errorf("StatsOf the form %d = %+v, want %+v", i, got, want)
		}
	}
	if got := statsOf(t, flattened(t, forms[0]), 0); got != (impl.Stats{Steps: 6, Allocs: 3, Peak: 3, Depth: 1, Shared: 1}) {
		t.Errorf("StatsOf without calls = %+v", got)
	}
	if got := statsOf(t, flattened(t, programForms(mapProgram())[3]), 40); got != (impl.Stats{Steps: 63, Allocs: 5, Reuses: 2, Dups: 2, Drops: 3, Peak: 4, Depth: 4, Shared: 2}) {
		t.Errorf("StatsOf a program that reuses = %+v", got)
	}
}

func TestStatsOfAgreesWithTheSecondWay(t *testing.T) {
	for i, w := range walks() {
		if i%2 > 0 {
			continue
		}
		if got, want := statsOf(t, w.im, w.most), statsMeaning(w.im, w.most); got != want {
			t.Fatalf("StatsOf(%v, %d) = %+v, want %+v", w.im, w.most, got, want)
		}
	}
}

func TestP162StepsAreCountedToTheStop(t *testing.T) {
	for _, w := range walks() {
		steps := statsOf(t, w.im, w.most).Steps
		s, _ := impl.StartState(w.im, w.most)
		at, ok := impl.RunState(w.im, s, steps)
		before, fine := impl.RunState(w.im, s, steps-1)
		if steps < 1 || !ok || !fine || at.Status == impl.Running || before.Status != impl.Running {
			t.Fatalf("StatsOf(%v, %d) has %d Steps, and the run comes to %s and %s", w.im, w.most, steps, showState(before), showState(at))
		}
	}
}

func TestP163LiveCellsWereMade(t *testing.T) {
	equal, less, none := 0, 0, 0
	check := func(im impl.Image, most int) {
		c, o := statsOf(t, im, most), ran(t, im, most)
		if c.Peak > c.Allocs || c.Depth < 1 || c.Depth > o.Calls+1 || (c.Shared == 0) != (c.Allocs == 0) || c.Peak == 0 && c.Allocs > 0 || c.Allocs+c.Reuses+c.Dups+c.Drops > c.Steps {
			t.Fatalf("StatsOf(%v, %d) = %+v, and Execute = %+v", im, most, c, o)
		}
		switch {
		case c.Allocs == 0:
			none++
		case c.Peak == c.Allocs:
			equal++
		default:
			less++
		}
	}
	for i, im := range images() {
		check(im, i%41)
	}
	for _, w := range walks() {
		check(w.im, w.most)
	}
	if equal < 100 || less < 100 || none < 100 {
		t.Errorf("Peak is Allocs %d times, and less %d times, and %d times there are none", equal, less, none)
	}
}

func TestP164StatisticsBoundEachState(t *testing.T) {
	for _, w := range walks() {
		c := statsOf(t, w.im, w.most)
		peak, depth, shared := 0, 0, 0
		s, _ := impl.StartState(w.im, w.most)
		for ended := false; !ended; s, _ = impl.StepState(w.im, s) {
			ended = s.Status != impl.Running
			peak, depth = max(peak, aliveIn(s.Heap)), max(depth, len(s.Frames))
			for _, x := range s.Heap {
				shared = max(shared, x.Count)
			}
		}
		// They are also reached.
		if c.Peak != peak || c.Depth != depth || c.Shared != shared {
			t.Fatalf("StatsOf(%v, %d) = %+v, and there are %d, %d and %d", w.im, w.most, c, peak, depth, shared)
		}
	}
}

// measured returns the numbers of the run of a balanced normal form.
func measured(t *testing.T, n impl.Normal, most int) impl.Stats {
	t.Helper()
	return statsOf(t, flattened(t, n), most)
}

// measurable returns balanced normal forms whose runs are compared, made of programs with lists among others.
func measurable() []impl.Normal {
	out := append([]impl.Normal{}, balancedVariants()...)
	for _, p := range append(listPrograms(), mapProgram(), twiceProgram(), mirrorProgram(), growProgram(), downProgram(9)) {
		out = append(out, programForms(p)...)
	}
	return out
}

func TestP165NoCountsNeedFewerCellsThanThePreciseOnes(t *testing.T) {
	checked, fewer := 0, 0
	for _, n := range measurable() {
		if counts := impl.CountsOf(n); counts[2]+counts[3] > 0 {
			continue
		}
		precise := countedOf(t, plainOf(t, n))
		for _, most := range []int{0, 1, 4, 40} {
			a, b := measured(t, precise, most), measured(t, n, most)
			if a.Peak > b.Peak {
				t.Fatalf("Peak of %v with %d calls is %d, and with precise counts %d", n, most, b.Peak, a.Peak)
			}
			checked++
			if a.Peak < b.Peak {
				fewer++
			}
		}
	}
	if checked < 5000 || fewer < 300 {
		t.Errorf("%d runs are compared, and %d need fewer cells with precise counts", checked, fewer)
	}
}

func TestP166CancelledCountsCostLess(t *testing.T) {
	fewer := 0
	for _, n := range measurable() {
		less := cancelOf(t, n)
		for _, most := range []int{0, 1, 4, 40} {
			a, b := measured(t, less, most), measured(t, n, most)
			if a.Steps > b.Steps || a.Dups > b.Dups || a.Drops > b.Drops || b.Dups-a.Dups != b.Drops-a.Drops || b.Steps-a.Steps != 2*(b.Dups-a.Dups) {
				t.Fatalf("StatsOf %v with %d calls = %+v, and of Cancel %+v", n, most, b, a)
			}
			if a.Dups < b.Dups {
				fewer++
			}
		}
	}
	if fewer < 1000 {
		t.Errorf("only %d runs have fewer dups", fewer)
	}
}

func TestP167ReusedCellsNeedNotBeMade(t *testing.T) {
	reused := 0
	for _, n := range append(measurable(), reusables()...) {
		again, ok := impl.Reuse(n)
		if !ok {
			continue
		}
		for _, most := range []int{0, 2, 40} {
			a, b := measured(t, again, most), measured(t, n, most)
			if b.Reuses != 0 || a.Allocs+a.Reuses != b.Allocs || a.Steps != b.Steps {
				t.Fatalf("StatsOf %v with %d calls = %+v, and of Reuse %+v", n, most, b, a)
			}
			reused += a.Reuses
		}
	}
	if reused < 300 {
		t.Errorf("only %d cells are reused", reused)
	}
}

func TestP168CellsThatAreNotSharedAreReused(t *testing.T) {
	taken, shared := 0, 0
	for _, n := range append(measurable(), keptForms(t)...) {
		im := flattened(t, n)
		if countOps(im, impl.OpReuse) == 0 {
			continue
		}
		c := statsOf(t, im, 40)
		s, _ := impl.StartState(im, 40)
		reuses := 0
		for s.Status == impl.Running {
			x, f := nextIn(im, s), s.Frames[len(s.Frames)-1]
			next, _ := impl.StepState(im, s)
			if x.Into > 0 && moves(s, next) {
				if f.Held[x.Into-1] != 0 {
					reuses++
				} else if shared++; c.Shared <= 1 {
					t.Fatalf("StatsOf(%v) = %+v, and %s takes no kept cell at %s", im, c, showInstr(x), showState(s))
				}
			}
			s = next
		}
		if reuses != c.Reuses {
			t.Fatalf("StatsOf(%v) = %+v, and %d instructions take kept cells", im, c, reuses)
		}
		if c.Shared <= 1 {
			taken += reuses
		}
	}
	if taken < 30 || shared < 30 {
		t.Errorf("%d cells that are not shared are reused, and %d instructions take no kept cell", taken, shared)
	}
}

func TestP169TailCallsNeedFewerFrames(t *testing.T) {
	depth, steps, kept := 0, 0, 0
	for i, im := range verifiedImages() {
		tail := tailed(t, im)
		for _, most := range []int{0, 2, 3 + i%37, 40} {
			a, b := statsOf(t, tail, most), statsOf(t, im, most)
			if a.Steps > b.Steps || a.Depth > b.Depth {
				t.Fatalf("StatsOf TailCalls(%v) with %d calls = %+v, and without tail calls %+v", im, most, a, b)
			}
			if a.Depth < b.Depth {
				depth++
			}
			if a.Steps < b.Steps {
				steps++
			}
			if b.Reuses > 0 || b.Dups > 0 && b.Drops > 0 {
				kept++
			}
			if a.Steps, a.Depth = b.Steps, b.Depth; a != b {
				t.Fatalf("StatsOf TailCalls(%v) with %d calls = %+v, and without tail calls %+v", im, most, a, b)
			}
		}
	}
	if depth < 500 || steps < 500 || kept < 500 {
		t.Errorf("%d runs have fewer frames, %d have fewer steps, and %d count or reuse cells", depth, steps, kept)
	}
}
