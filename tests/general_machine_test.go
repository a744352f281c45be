package tests

import (
	"go/ast"
	"testing"

	"loop.example/refcountml/impl"
)

// machineAnswers returns, as texts, what all functions of the machine return for an image and a state.
func machineAnswers(im impl.Image, s impl.State) []string {
	var out []string
	for _, most := range []int{-1, 0, 3, 40, 41} {
		first, fine := impl.StartState(im, most)
		o, well := impl.Execute(im, most)
		c, good := impl.StatsOf(im, most)
		out = append(out, text(first), text(fine), text(o), text(well), text(c), text(good))
	}
	for _, many := range []int{-1, 0, 2, 100000} {
		run, ok := impl.RunState(im, s, many)
		out = append(out, text(run), text(ok))
	}
	next, ok := impl.StepState(im, s)
	for f := -1; f <= 4; f++ {
		out = append(out, text(impl.LiveRegs(im, f, 0)), text(impl.LiveRegs(im, f, 1)))
	}
	return append(out, text(next), text(ok), text(impl.ValidState(im, s)), text(impl.NeededCells(im, s)), text(impl.Garbage(im, s)), text(impl.OwnedCells(im, s)))
}

func TestCallsOnStatesChangeNothing(t *testing.T) {
	var all []scene
	m := maker{seed: 90}
	for i, x := range scenes() {
		switch i % 9 {
		case 0:
			all = append(all, x)
		case 3:
			all = append(all, scene{x.im, m.spoiltState(x.s)})
		case 6:
			all = append(all, scene{m.spoilt(x.im), x.s})
		}
	}
	changesNothing(t, len(all), func(i int) ([]string, string) {
		return machineAnswers(all[i].im, all[i].s), text(all[i])
	})
}

func TestStatesAreNewMemory(t *testing.T) {
	for i, x := range scenes() {
		first, _ := impl.StartState(x.im, 40)
		next, _ := impl.StepState(x.im, x.s)
		if overlap([]impl.State{first, next}, x) {
			t.Fatalf("StartState or StepState of %s shares memory", showState(x.s))
		}
		if i%4 > 0 {
			continue
		}
		// The lists of one state are in memory of their own also after many instructions.
		last, _ := impl.RunState(x.im, x.s, 100000)
		whole, _ := impl.RunState(x.im, first, 100000)
		o, _ := impl.Execute(x.im, 40)
		lists := [][]int{impl.LiveRegs(x.im, 0, 0), impl.LiveRegs(x.im, 0, 0), impl.NeededCells(x.im, x.s), impl.Garbage(x.im, x.s), impl.OwnedCells(x.im, x.s), o.Out}
		if overlap([]impl.State{last, whole}, x) || overlap(lists, x) || overlap([]impl.State{last, whole, {Out: o.Out}}, lists[:5]) {
			t.Fatalf("answers to %s share memory", showState(x.s))
		}
	}
	for i, w := range walks() {
		s, _ := impl.StartState(w.im, w.most)
		if i%3 > 0 {
			continue
		}
		for k := 7; s.Status == impl.Running; k += 9 {
			next, _ := impl.RunState(w.im, s, k)
			if overlap(next, s) || overlap(next, w.im) {
				t.Fatalf("RunState of %s shares memory", showState(s))
			}
			s = next
		}
	}
}

// A state whose lists are in the same memory, with spare room behind them, must not be written into.
func TestStatesInOneMemory(t *testing.T) {
	numbers := make([]int, 6, 20)
	frames := make([]impl.Frame, 2, 9)
	h := make([]impl.Cell, 2, 9)
	h[1] = impl.Cell{Count: 1, Fields: numbers[:2]}
	own := make([]int, 6, 20)
	own[0] = 1
	words := make([]int, 6, 20)
	words[0] = 1001
	frames[0] = impl.Frame{Proc: 3, At: 1, Regs: numbers, Own: numbers, Held: numbers}
	frames[1] = impl.Frame{Proc: 3, Dst: 4, Regs: words, Own: own, Held: numbers}
	s := impl.State{Status: impl.Running, Calls: 1, Most: 9, Out: numbers[:3], Heap: h, Frames: frames}
	for _, x := range []impl.Instr{
		printTo(1, 2), conTo(1, 0), conTo(0, 1, 1, 0), callTo(5, 2, 0), tailTo(2, 0), back(0), in(impl.OpReuse, 0, 0), in(impl.OpOpen, 0, 0), in(impl.OpDrop, 0, 0), in(impl.OpDup, 0, 0), move(2, 0), load(3, 1, 0),
	} {
		im := imageOf(x, back(0))
		before := text(s)
		next, ok := impl.StepState(im, s)
		if !ok || next.Status != impl.Running || overlap(next, s) {
			t.Errorf("StepState of %s = %s, or it shares memory", showInstr(x), showState(next))
		}
		if text(s) != before || text(numbers[:20]) != text(make([]int, 20)) || text(own[6:20]) != text(make([]int, 14)) || text(words[6:20]) != text(make([]int, 14)) || text(h[2:9]) != text(make([]impl.Cell, 7)) || text(frames[2:9]) != text(make([]impl.Frame, 7)) {
			t.Errorf("StepState of %s writes into its argument", showInstr(x))
		}
	}
}

func TestNilAndEmptyListsOfStatesAreTheSame(t *testing.T) {
	im := imageOf(back(0))
	done := impl.State{Value: 3, Out: []int{}, Heap: []impl.Cell{}, Frames: []impl.Frame{}}
	if !impl.ValidState(im, done) || text(machineAnswers(im, done)) != text(machineAnswers(im, impl.State{Value: 3})) {
		t.Error("empty lists of states are not nil lists")
	}
	_, s := waiting()
	im, _ = waiting()
	s.Out = nil
	other := copyState(s)
	for i := range other.Heap {
		if len(other.Heap[i].Fields) == 0 {
			s.Heap[i].Fields = nil
			other.Heap[i].Fields = []int{}
		}
	}
	if !impl.ValidState(im, s) || text(machineAnswers(im, s)) != text(machineAnswers(im, other)) {
		t.Error("empty fields are not nil fields")
	}
}

// oddStates returns states that are far from valid ones, or nearly valid with far numbers.
func oddStates() []impl.State {
	var out []impl.State
	_, base := waiting()
	for _, n := range oddNumbers() {
		for _, change := range []func(s *impl.State){
			func(s *impl.State) { s.Status = n }, func(s *impl.State) { s.Value = n }, func(s *impl.State) { s.Calls = n }, func(s *impl.State) { s.Most = n }, func(s *impl.State) { s.Calls, s.Most = n, n },
			func(s *impl.State) { s.Out = []int{n} }, func(s *impl.State) { s.Heap[0].Count = n }, func(s *impl.State) { s.Heap[0].Tag = n }, func(s *impl.State) { s.Heap[1].Fields[0] = n }, func(s *impl.State) { s.Heap[2].Fields[0] = n },
			func(s *impl.State) { s.Heap[0].Count, s.Frames[0].Own[0] = n, n-1 }, func(s *impl.State) { s.Heap = nil }, func(s *impl.State) { s.Frames = nil },
		} {
			s := copyState(base)
			change(&s)
			out = append(out, s)
		}
		for k := range base.Frames {
			for _, change := range []func(f *impl.Frame){
				func(f *impl.Frame) { f.Proc = n }, func(f *impl.Frame) { f.At = n }, func(f *impl.Frame) { f.Dst = n }, func(f *impl.Frame) { f.Regs[0] = n }, func(f *impl.Frame) { f.Regs[5] = n }, func(f *impl.Frame) { f.Own[0] = n }, func(f *impl.Frame) { f.Own[5] = n },
				func(f *impl.Frame) { f.Held[5] = n }, func(f *impl.Frame) { f.Regs[5], f.Own[5] = n, n }, func(f *impl.Frame) { f.Regs = []int{n} }, func(f *impl.Frame) { f.Own = nil }, func(f *impl.Frame) { f.Held = make([]int, 100000) },
			} {
				s := copyState(base)
				change(&s.Frames[k])
				out = append(out, s)
			}
		}
	}
	many := copyState(base)
	many.Frames = make([]impl.Frame, 100000)
	return append(out, many, impl.State{}, impl.State{Status: impl.Running}, impl.State{Frames: []impl.Frame{{}}}, impl.State{Status: impl.Running, Frames: []impl.Frame{{}}})
}

func TestAllFunctionsOfTheMachineReturn(t *testing.T) {
	im, s := waiting()
	for _, other := range oddStates() {
		if impl.ValidState(im, other) != stateFits(im, other) {
			t.Fatalf("ValidState of %.300s = %v", text(other), impl.ValidState(im, other))
		}
		machineAnswers(im, other)
	}
	for _, other := range oddImages() {
		impl.ValidState(other, s)
		impl.StepState(other, s)
		impl.Execute(other, 40)
		impl.StatsOf(other, 40)
		impl.LiveRegs(other, 3, 0)
		impl.Garbage(other, s)
	}
	for _, n := range oddNumbers() {
		for _, k := range oddNumbers() {
			impl.LiveRegs(im, n, k)
		}
		impl.StartState(im, n)
		impl.RunState(im, s, n)
		impl.Execute(im, n)
		impl.StatsOf(im, n)
	}
	// Every valid image can be run, and every valid state of it.
	for i, x := range images() {
		impl.Execute(x, i%41)
		impl.StatsOf(x, i%41)
	}
	for _, x := range scenes() {
		if out, ok := impl.RunState(x.im, x.s, 100000); !ok || out.Status == impl.Running {
			t.Fatalf("RunState of %s = %s", showState(x.s), showState(out))
		}
	}
}

// choosesBy reports whether a function of a file of impl is a switch over the operation of an instruction, with at least some cases.
func choosesBy(t *testing.T, name string, function string, cases int) bool {
	t.Helper()
	found := false
	for _, d := range declared(t, name) {
		f, ok := d.(*ast.FuncDecl)
		if !ok || f.Name.Name != function {
			continue
		}
		ast.Inspect(f, func(n ast.Node) bool {
			if s, ok := n.(*ast.SwitchStmt); ok {
				by, field := s.Tag.(*ast.SelectorExpr)
				found = found || field && by.Sel.Name == "Op" && len(s.Body.List) >= cases
			}
			return true
		})
	}
	return found
}

// countsDown reports whether a function of a file of impl has a loop from the end to the beginning.
func countsDown(t *testing.T, name string) bool {
	t.Helper()
	found := false
	for _, d := range declared(t, name) {
		ast.Inspect(d, func(n ast.Node) bool {
			if loop, ok := n.(*ast.ForStmt); ok {
				step, ok := loop.Post.(*ast.IncDecStmt)
				found = found || ok && step.Tok.String() == "--"
			}
			return true
		})
	}
	return found
}

func TestWaysOfTheSixthStage(t *testing.T) {
	if !choosesBy(t, "l15_machine.go", "execute", 10) || !hasField(t, "l15_machine.go", "machine", "s", "State") {
		t.Error("instructions are executed without a switch over operations")
	}
	if !countsDown(t, "l16_needed.go") || !hasSignature(t, "l16_needed.go", signature{params: "Proc, int, [][]int", result: "[]int"}) {
		t.Error("needed cells are found without backward data flow")
	}
	if !hasField(t, "l17_stats.go", "tally", "stats", "Stats") || !hasField(t, "l17_stats.go", "tally", "cells", "int") {
		t.Error("statistics are made without a struct of counters")
	}
}
