package tests

import (
	"testing"

	"loop.example/refcountml/impl"
)

// asks reports whether a sum of flags has one of them.
func asks(flags int, flag int) bool {
	return flags&flag != 0
}

// formMeaning returns what CompileNormal should for a valid program and flags, by the functions that it is made of.
func formMeaning(p impl.Program, flags int) (impl.Normal, bool) {
	fine := true
	if asks(flags, 1) {
		p, fine = impl.Fold(p)
	}
	if asks(flags, 2) {
		p, _ = impl.KnownCalls(p)
	}
	n, _ := impl.Normalize(p)
	if asks(flags, 4) {
		n, _ = impl.Borrow(n)
	}
	if asks(flags, 8) {
		n, _ = impl.CountLate(n)
	} else {
		n, _ = impl.Count(n)
	}
	if asks(flags, 16) {
		n, _ = impl.Cancel(n)
	}
	if asks(flags, 32) {
		n, _ = impl.Specialize(n)
	}
	if asks(flags, 64) {
		n, _ = impl.Reuse(n)
	}
	return n, fine
}

// compileMeaning returns what Compile should for a valid program and flags.
func compileMeaning(p impl.Program, flags int) (impl.Image, bool) {
	n, fine := formMeaning(p, flags)
	im, _ := impl.Flatten(n)
	if asks(flags, 128) {
		im, _ = impl.TailCalls(im)
	}
	return im, fine
}

// richPrograms returns programs that are compiled with all flags; in the first one each flag has something to do.
func richPrograms() []impl.Program {
	// Something is folded, known, printed and called, and the list is matched, made again and shared; some calls are the last ones, and one list is never used.
	rich := impl.Program{Decls: append(lists(), arrow(0, 0)), Funcs: []impl.Func{
		{Body: parsed("(let (con1 (add 1 2) (con1 4 (con0))) (add (call1 v0 (apply (close3 5) 6)) (call1 (call2 v0 1 (con0)) 0)))")},
		{Params: []int{1, 0}, Body: parsed("(match1 v0 v1 (call1 v3 (add v1 (print v2))))")},
		{Params: []int{1, 0, 1}, Result: 1, Body: parsed("(let (call1 v0 v1) (match1 v0 (con0) (con1 (match1 (con1 v3 (con0)) 0 (sub v6 v4)) (call2 v5 (if 1 v1 v4) v5))))")},
		{Params: []int{0, 0}, Body: parsed("(sub v0 (mul 2 v1))")},
	}}
	return []impl.Program{rich, mapProgram(), mirrorProgram(), growProgram()}
}

func TestCompileAgreesWithTheSecondWay(t *testing.T) {
	images := make(map[string]bool)
	for i, p := range richPrograms() {
		for flags := 0; flags <= 255; flags++ {
			n, ok := impl.CompileNormal(p, flags)
			want, fine := formMeaning(p, flags)
			if ok != fine || text(n) != text(want) {
				t.Fatalf("CompileNormal(%v, %d) = %v, %v, want %v, %v", p, flags, n, ok, want, fine)
			}
			im, ok := impl.Compile(p, flags)
			flat, fine := compileMeaning(p, flags)
			if ok != fine || text(im) != text(flat) {
				t.Fatalf("Compile(%v, %d) = %v, %v, want %v, %v", p, flags, im, ok, flat, fine)
			}
			if i == 0 {
				images[text(im)] = true
			}
			for _, most := range []int{0, 1, 5, 40} {
				o, ok := impl.Perform(p, flags, most)
				meant, _ := impl.Execute(flat, most)
				c, fine := impl.CostOf(p, flags, most)
				cost, _ := impl.StatsOf(flat, most)
				if !ok || !fine || text(o) != text(meant) || c != cost {
					t.Fatalf("Perform and CostOf(%v, %d, %d) = %v, %v, %v, %v, want %v, %v", p, flags, most, o, ok, c, fine, meant, cost)
				}
			}
		}
	}
	// Late counts leave nothing to be taken apart, and without FlagOpen there is nothing to reuse.
	if len(images) < 60 {
		t.Errorf("there are only %d images of one program", len(images))
	}
}

// Each flag asks for its own function, and for nothing else.
func TestEachFlagByItself(t *testing.T) {
	p := richPrograms()[0]
	plain, _ := impl.Normalize(p)
	bare, _ := impl.CompileNormal(p, 0)
	folded, _ := impl.Fold(p)
	known, _ := impl.KnownCalls(p)
	lent, _ := impl.Borrow(plain)
	late := lateOf(t, plain)
	taken, _ := impl.Specialize(countedOf(t, plain))
	counted := func(p impl.Program) impl.Normal {
		n, _ := impl.Normalize(p)
		return countedOf(t, n)
	}
	for _, c := range []struct {
		flags int
		want  impl.Normal
	}{
		{0, countedOf(t, plain)}, {impl.FlagFold, counted(folded)}, {impl.FlagKnown, counted(known)}, {impl.FlagLend, countedOf(t, lent)}, {impl.FlagLate, late},
		{impl.FlagCancel, cancelOf(t, bare)}, {impl.FlagLate + impl.FlagCancel, cancelOf(t, late)}, {impl.FlagOpen, taken}, {impl.FlagReuse, bare}, {impl.FlagTail, bare},
	} {
		if n, ok := impl.CompileNormal(p, c.flags); !ok || text(n) != text(c.want) {
			t.Errorf("CompileNormal with %d = %v, %v, want %v", c.flags, n, ok, c.want)
		}
		if changes := c.flags > 0 && c.flags != impl.FlagReuse && c.flags != impl.FlagTail; changes && text(c.want) == text(bare) {
			t.Errorf("the flags %d change nothing", c.flags)
		}
	}
	again, ok := impl.CompileNormal(p, impl.FlagOpen+impl.FlagReuse)
	if want, fine := impl.Reuse(taken); !ok || !fine || text(again) != text(want) || text(again) == text(taken) {
		t.Errorf("CompileNormal with FlagOpen and FlagReuse = %v, %v", again, ok)
	}
	flat := flattened(t, bare)
	if im, ok := impl.Compile(p, 0); !ok || text(im) != text(flat) {
		t.Errorf("Compile without flags = %v, %v", im, ok)
	}
	if im, ok := impl.Compile(p, impl.FlagTail); !ok || text(im) != text(tailed(t, flat)) || text(im) == text(flat) {
		t.Errorf("Compile with FlagTail = %v, %v", im, ok)
	}
	all, ok := impl.Compile(p, impl.MaxFlags)
	if sum := impl.FlagFold + impl.FlagKnown + impl.FlagLend + impl.FlagLate + impl.FlagCancel + impl.FlagOpen + impl.FlagReuse + impl.FlagTail; !ok || sum != impl.MaxFlags || text(all) == text(flat) {
		t.Errorf("Compile with all flags = %v, %v", all, ok)
	}
}

// The order matters where one function makes what another one looks for.
func TestFlagsAreTakenInOrder(t *testing.T) {
	p := impl.Program{Decls: append(lists(), arrow(0, 0)), Funcs: []impl.Func{
		{Body: parsed("(apply (if 1 (close1) (close2 3)) (match1 (con1 (add 1 1) (con0)) 0 v0))")}, {Params: []int{0}, Body: parsed("(print v0)")}, {Params: []int{0, 0}, Body: v(1)},
	}}
	// A closure that is known only after folding is called directly.
	n, ok := impl.CompileNormal(p, impl.FlagFold+impl.FlagKnown)
	if !ok || show(n.Routines[0].Body) != "0:2[] 6:0[] 15:0[1] 9:1[0] > 2" {
		t.Errorf("CompileNormal = %s, %v", show(n.Routines[0].Body), ok)
	}
	// What is lent only after known closures are gone, and only before counts are put in.
	q := impl.Program{Decls: append(lists(), arrow(1, 0)), Funcs: []impl.Func{{Body: parsed("(apply (close1) (con1 4 (con0)))")}, {Params: []int{1}, Body: parsed("(match1 v0 0 v1)")}}}
	n, ok = impl.CompileNormal(q, impl.FlagKnown+impl.FlagLend)
	if !ok || !same(n.Routines[1].Lent, 0) || !same(impl.CountsOf(n), 0, 1, 0, 0) {
		t.Errorf("CompileNormal = %v, %v", n, ok)
	}
	n, ok = impl.CompileNormal(q, impl.FlagLend)
	if !ok || len(n.Routines[1].Lent) != 0 {
		t.Errorf("CompileNormal = %v, %v", n, ok)
	}
}

func TestCompileOfTheExample(t *testing.T) {
	for flags, want := range map[int]string{
		0:                              "8:1[0]{15:0[0] 0:0[] > 1}{14:0[2] 15:0[0] 9:1[2] 1:0[1 3] > 4} > 1",
		impl.FlagOpen:                  "8:1[0]{15:0[0] 0:0[] > 1}{16:0[0] 9:1[2] 1:0[1 3] > 4} > 1",
		impl.FlagLend:                  "8:1[0]{0:0[] > 1}{14:0[2] 9:1[2] 15:0[2] 1:0[1 3] > 4} > 1",
		impl.FlagLate:                  "8:1[0]{0:0[] > 1}{14:0[2] 14:0[2] 9:1[2] 1:0[1 3] 15:0[2] > 4} 15:0[0] > 1",
		impl.FlagOpen + impl.FlagReuse: "8:1[0]{15:0[0] 0:0[] > 1}{16:0[0] 9:1[2] 1:0[1 3] > 4} > 1",
	} {
		if n, ok := impl.CompileNormal(sumProgram(), flags); !ok || show(n.Routines[1].Body) != want {
			t.Errorf("CompileNormal with %d has %s, want %s", flags, show(n.Routines[1].Body), want)
		}
	}
	for flags := 0; flags <= 255; flags++ {
		if o, ok := impl.Perform(sumProgram(), flags, 40); !ok || text(o) != text(done(12, 3)) {
			t.Errorf("Perform with %d = %v, %v", flags, o, ok)
		}
	}
	if c, ok := impl.CostOf(sumProgram(), 0, 40); !ok || c != (impl.Stats{Steps: 31, Allocs: 3, Dups: 2, Drops: 3, Peak: 3, Depth: 4, Shared: 2}) {
		t.Errorf("CostOf = %+v, %v", c, ok)
	}
	if c, ok := impl.CostOf(sumProgram(), 0, 0); !ok || c != (impl.Stats{Steps: 6, Allocs: 3, Peak: 3, Depth: 1, Shared: 1}) {
		t.Errorf("CostOf without calls = %+v, %v", c, ok)
	}
}

// compilesNothing tells if a function compiles a program with flags, or gives more than its zero value.
func compilesNothing(t *testing.T, what string, p impl.Program, flags int) {
	t.Helper()
	n, ok := impl.CompileNormal(p, flags)
	im, fine := impl.Compile(p, flags)
	if ok || fine || text(n) != text(impl.Normal{}) || text(im) != text(impl.Image{}) {
		t.Errorf("CompileNormal and Compile of %s with %d = %v, %v, %v, %v", what, flags, n, ok, im, fine)
	}
	performsNothing(t, what, p, flags, 40)
}

// performsNothing tells if a program is performed, or its cost is found.
func performsNothing(t *testing.T, what string, p impl.Program, flags int, most int) {
	t.Helper()
	o, ok := impl.Perform(p, flags, most)
	c, fine := impl.CostOf(p, flags, most)
	if ok || fine || text(o) != text(impl.Outcome{}) || c != (impl.Stats{}) {
		t.Errorf("Perform and CostOf of %s with %d and %d calls = %v, %v, %v, %v", what, flags, most, o, ok, c, fine)
	}
}

func TestCompilingInvalidArguments(t *testing.T) {
	for _, flags := range []int{-1 << 63, -256, -128, -1, 256, 257, 512, 1 << 62, 1<<63 - 1} {
		compilesNothing(t, "a program", sumProgram(), flags)
	}
	for i, p := range badPrograms() {
		for _, flags := range []int{0, 1, 2, 3, 8, 252 - i%4, 255} {
			compilesNothing(t, "a bad program", p, flags)
		}
	}
	for _, most := range []int{-1 << 63, -1, 41, 1<<63 - 1} {
		for flags := 0; flags <= 255; flags += 5 {
			performsNothing(t, "a program", sumProgram(), flags, most)
		}
	}
}

// Where Fold fails, so does each function with FlagFold, and with no other flags.
func TestCompilingWhatCannotBeFolded(t *testing.T) {
	for _, p := range []impl.Program{withBody(boxProgram(), 0, nestedBoxes(5)), withBody(boxProgram(), 1, boxed(30))} {
		for flags := 0; flags <= 255; flags++ {
			if asks(flags, impl.FlagFold) {
				compilesNothing(t, "a program that cannot be folded", p, flags)
			} else if o, ok := impl.Perform(p, flags, 0); !ok || text(o) != text(eval(t, p, 0)) {
				t.Errorf("Perform(%v, %d, 0) = %v, %v", p, flags, o, ok)
			}
		}
	}
}

// someFlags returns sums of flags for the program with some number: each flag by itself, or none and all of them, or others.
func someFlags(i int) []int {
	switch i % 8 {
	case 0:
		return []int{1, 2, 4, 8}
	case 1:
		return []int{16, 32, 64, 128}
	case 2:
		return []int{0, 255, 96, 254}
	}
	return []int{i * 37 % 256, (i*37 + 59) % 256, (i*37 + 150) % 256, (i*37 + 211) % 256}
}

// eachCompiled calls a function for programs and flags with which they can be compiled: all of them for some programs, and some for all.
func eachCompiled(t *testing.T, check func(p impl.Program, flags int, n impl.Normal)) {
	t.Helper()
	failed := 0
	try := func(p impl.Program, flags int) {
		n, ok := impl.CompileNormal(p, flags)
		if !ok {
			failed++
			return
		}
		check(p, flags, n)
	}
	for _, p := range richPrograms() {
		for flags := 0; flags <= 255; flags++ {
			try(p, flags)
		}
	}
	for i, p := range simplePrograms() {
		for _, flags := range someFlags(i) {
			try(p, flags)
		}
	}
	if failed == 0 || failed > 200 {
		t.Errorf("%d times a program is not compiled", failed)
	}
}

func TestP182CompiledFormsAreBalanced(t *testing.T) {
	eachCompiled(t, func(p impl.Program, flags int, n impl.Normal) {
		if !impl.Balanced(n) {
			t.Fatalf("CompileNormal(%v, %d) = %v", p, flags, n)
		}
		for _, most := range []int{0, 1, 2, 7, 39, 40} {
			if o, ok := impl.EvalNormal(n, most); !ok || text(o) != text(eval(t, p, most)) {
				t.Fatalf("CompileNormal(%v, %d) does %v with %d calls instead of %v", p, flags, o, most, eval(t, p, most))
			}
		}
	})
}

func TestP183OnlyCountingDependsOnMostFlags(t *testing.T) {
	others := 0
	eachCompiled(t, func(p impl.Program, flags int, n impl.Normal) {
		plain, same := text(plainOf(t, n)), text(normalOf(t, p))
		if flags&7 == 0 && plain != same {
			t.Fatalf("CompileNormal(%v, %d) = %v", p, flags, n)
		}
		if plain != same {
			others++
		}
	})
	if others < 500 {
		t.Errorf("only %d times something else is compiled", others)
	}
}

func TestP184CompilingSucceeds(t *testing.T) {
	all := append(richPrograms(), simplePrograms()...)
	for _, signs := range layers() {
		// Bodies that are as large as they can be, and have many variables.
		m := &maker{p: signs, seed: 6}
		p := impl.Program{Decls: signs.Decls}
		for _, f := range signs.Funcs {
			f.Body = m.fitting(f.Params, f.Result, 7, impl.MaxNodes)
			p.Funcs = append(p.Funcs, f)
		}
		all = append(all, p)
	}
	for i, p := range all {
		for _, flags := range []int{0, 254, 126, 2 * (i % 128), 254 - 2*(i%128)} {
			n, ok := impl.CompileNormal(p, flags)
			im, fine := impl.Compile(p, flags)
			if !ok || !fine || !impl.ValidNormal(n) || !impl.ValidImage(im) {
				t.Fatalf("CompileNormal and Compile(%v, %d) = %v, %v, %v, %v", p, flags, n, ok, im, fine)
			}
		}
	}
}

func TestP185CompiledImagesAreVerified(t *testing.T) {
	tails, reused, lent := 0, 0, 0
	eachCompiled(t, func(p impl.Program, flags int, n impl.Normal) {
		im, ok := impl.Compile(p, flags)
		if !ok || !impl.Verified(im) {
			t.Fatalf("Compile(%v, %d) = %v, %v", p, flags, im, ok)
		}
		tails += countOps(im, impl.OpTail)
		reused += countOps(im, impl.OpReuse)
		for _, one := range im.Procs {
			lent += len(one.Lent)
		}
	})
	if tails < 300 || reused < 100 || lent < 300 {
		t.Errorf("there are %d tail calls, %d cells that are kept, and %d parameters that are lent", tails, reused, lent)
	}
}

func TestP186WhatEndsLeavesNothing(t *testing.T) {
	ended, never := 0, 0
	eachCompiled(t, func(p impl.Program, flags int, n impl.Normal) {
		im, ok := impl.Compile(p, flags)
		s, fine := impl.StartState(im, 40)
		s, well := impl.RunState(im, s, 100000)
		if !ok || !fine || !well || s.Status != impl.Done && s.Status != impl.Spent {
			t.Fatalf("Compile(%v, %d) = %v, %v, which comes to %s", p, flags, im, ok, showState(s))
		}
		if impl.CallsOf(p) < 0 {
			never++
			return
		}
		ended++
		if o := eval(t, p, 40); s.Status != impl.Done || len(s.Heap) != 0 || len(s.Frames) != 0 || s.Value != o.Value || text(s.Out) != text(o.Out) {
			t.Fatalf("Compile(%v, %d) comes to %s instead of %v", p, flags, showState(s), o)
		}
	})
	if ended < 2000 || never < 500 {
		t.Errorf("%d runs end, and %d do not", ended, never)
	}
}

func TestP187CompiledProgramsDoWhatProgramsMean(t *testing.T) {
	eachCompiled(t, func(p impl.Program, flags int, n impl.Normal) {
		for _, most := range []int{0, 1, 3, (flags + len(text(p))) % 41, 40} {
			if o, ok := impl.Perform(p, flags, most); !ok || text(o) != text(eval(t, p, most)) {
				t.Fatalf("Perform(%v, %d, %d) = %v, %v, want %v", p, flags, most, o, ok, eval(t, p, most))
			}
		}
	})
	// Each number of calls, for programs that end, and for those that never do.
	for _, p := range append(richPrograms(), downProgram(39), downProgram(41)) {
		for most := 0; most <= 40; most++ {
			for _, flags := range []int{0, 1, 2, 4, 8, 16, 32, 64, 96, 128, 255} {
				if o, ok := impl.Perform(p, flags, most); !ok || text(o) != text(eval(t, p, most)) {
					t.Fatalf("Perform(%v, %d, %d) = %v, %v, want %v", p, flags, most, o, ok, eval(t, p, most))
				}
			}
		}
	}
}

func TestP188FlagsDoNotMatter(t *testing.T) {
	for i, p := range append(richPrograms(), simplePrograms()...) {
		for _, most := range []int{0, 2, i % 41, 40} {
			first := ""
			for _, flags := range append(someFlags(i), 0) {
				o, ok := impl.Perform(p, flags, most)
				if !ok {
					continue
				}
				if first == "" {
					first = text(o)
				}
				if text(o) != first {
					t.Fatalf("Perform(%v, %d, %d) = %v, and with other flags %s", p, flags, most, o, first)
				}
			}
			if first == "" {
				t.Fatalf("Perform(%v) fails with all flags", p)
			}
		}
	}
}

// compared calls a function for the costs of programs with some flags without one of them, and with this as well, but for those with some others.
func compared(t *testing.T, flag int, but int, check func(before impl.Stats, now impl.Stats) bool) {
	t.Helper()
	one := func(p impl.Program, flags int) {
		for _, most := range []int{0, 3, 40} {
			before, ok := impl.CostOf(p, flags, most)
			now, fine := impl.CostOf(p, flags+flag, most)
			if ok != fine {
				t.Fatalf("CostOf(%v) with %d and %d more = %v, %v", p, flags, flag, ok, fine)
			}
			if ok && !check(before, now) {
				t.Fatalf("CostOf(%v, %d, %d) = %+v, and with %d more %+v", p, flags, most, before, flag, now)
			}
		}
	}
	for _, p := range richPrograms() {
		for flags := 0; flags <= 255; flags++ {
			if flags&(flag+but) == 0 {
				one(p, flags)
			}
		}
	}
	for i, p := range simplePrograms() {
		for _, flags := range someFlags(i)[:2+i%3] {
			one(p, flags&^(flag+but))
		}
	}
}

func TestP189ReuseMakesFewerCells(t *testing.T) {
	fewer := 0
	compared(t, impl.FlagReuse, 0, func(before impl.Stats, now impl.Stats) bool {
		if now.Allocs < before.Allocs {
			fewer++
		}
		return now.Allocs+now.Reuses == before.Allocs+before.Reuses && before.Reuses == 0 && now.Steps == before.Steps
	})
	if fewer < 100 {
		t.Errorf("only %d runs make fewer cells", fewer)
	}
}

func TestP190LateCountsNeedMoreCells(t *testing.T) {
	more, dups := 0, 0
	compared(t, impl.FlagLate, impl.FlagOpen+impl.FlagCancel, func(before impl.Stats, now impl.Stats) bool {
		if now.Peak > before.Peak {
			more++
		}
		if now.Dups > before.Dups {
			dups++
		}
		return now.Peak >= before.Peak && now.Dups >= before.Dups
	})
	if more < 300 || dups < 1000 {
		t.Errorf("%d runs need more cells, and %d more dups", more, dups)
	}
}

func TestP191TailCallsNeedFewerFrames(t *testing.T) {
	fewer, steps := 0, 0
	compared(t, impl.FlagTail, 0, func(before impl.Stats, now impl.Stats) bool {
		if now.Depth < before.Depth {
			fewer++
		}
		if now.Steps < before.Steps {
			steps++
		}
		return now.Steps <= before.Steps && now.Depth <= before.Depth && now.Peak == before.Peak
	})
	if fewer < 300 || steps < 300 {
		t.Errorf("%d runs have fewer frames, and %d fewer steps", fewer, steps)
	}
}

func TestP192TakingApartSavesDups(t *testing.T) {
	fewer := 0
	compared(t, impl.FlagOpen, 0, func(before impl.Stats, now impl.Stats) bool {
		if now.Dups < before.Dups {
			fewer++
		}
		return now.Dups <= before.Dups && now.Allocs+now.Reuses == before.Allocs+before.Reuses
	})
	if fewer < 300 {
		t.Errorf("only %d runs have fewer dups", fewer)
	}
}

func TestP193PreciseCountsHaveNothingToCancel(t *testing.T) {
	counted := 0
	compared(t, impl.FlagCancel, impl.FlagLate, func(before impl.Stats, now impl.Stats) bool {
		if now.Dups > 0 && now.Drops > 0 {
			counted++
		}
		return now.Steps == before.Steps && now.Dups == before.Dups && now.Drops == before.Drops && now.Peak == before.Peak
	})
	if counted < 300 {
		t.Errorf("only %d runs count", counted)
	}
}
