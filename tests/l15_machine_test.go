package tests

import (
	"testing"

	"loop.example/refcountml/impl"
)

// waiting returns an image, and a valid state of it with two frames, in which cells are shared, owned, kept and free.
func waiting() (impl.Image, impl.State) {
	im := imageOf(callTo(5, 2, 0), move(0, 0), back(0))
	outer := readFrame(1, "1000*1 7 1003 1001*1^1002")
	inner := readFrame(0, "1004*2 1000 1 0^1006")
	inner.Proc, inner.Dst = 2, 1
	h := heap(live(2, 0), live(1, 1, 5, 1000), keep(2), free(), live(2, 99, -7), free(), keep(0))
	return im, impl.State{Status: impl.Running, Calls: 3, Most: 7, Out: []int{7, -999, 999}, Heap: h, Frames: []impl.Frame{outer, inner}}
}

// stating is a change of a state, and whether it stays valid.
type stating struct {
	change func(s *impl.State)
	ok     bool
}

// checkStates tries changes of a state.
func checkStates(t *testing.T, rules []stating) {
	t.Helper()
	for i, c := range rules {
		im, s := waiting()
		c.change(&s)
		if impl.ValidState(im, s) != c.ok || stateFits(im, s) != c.ok {
			t.Errorf("ValidState with the change %d = %v, in the second way %v: %s", i, impl.ValidState(im, s), stateFits(im, s), showState(s))
		}
	}
}

// end makes a state one without frames.
func end(s *impl.State) {
	s.Status, s.Heap, s.Frames = impl.Done, nil, nil
}

func TestValidStateOfNumbers(t *testing.T) {
	checkStates(t, []stating{
		{func(s *impl.State) {}, true},
		// The four statuses, and others.
		{func(s *impl.State) { s.Status = impl.Spent }, true},
		{func(s *impl.State) { s.Status = impl.Fault }, true},
		{func(s *impl.State) { s.Status = impl.Done }, false},
		{func(s *impl.State) { s.Status = 4 }, false},
		{func(s *impl.State) { s.Status = -1 }, false},
		{func(s *impl.State) { s.Status = -1 << 63 }, false},
		{func(s *impl.State) { end(s) }, true},
		{func(s *impl.State) { end(s); s.Status = impl.Running }, false},
		{func(s *impl.State) { end(s); s.Status = impl.Spent }, false},
		{func(s *impl.State) { end(s); s.Status = impl.Fault }, false},
		{func(s *impl.State) { end(s); s.Frames = []impl.Frame{} }, true},
		// A heap without frames must be empty.
		{func(s *impl.State) { end(s); s.Heap = heap(nil1) }, false},
		{func(s *impl.State) { end(s); s.Heap = heap(keep(0)) }, false},
		{func(s *impl.State) { end(s); s.Heap = heap(nil1, live(1, 0, 1000)) }, false},
		// The value.
		{func(s *impl.State) { s.Value = 1 }, false},
		{func(s *impl.State) { s.Value = -1 }, false},
		{func(s *impl.State) { s.Status, s.Value = impl.Spent, 1 }, false},
		{func(s *impl.State) { s.Status, s.Value = impl.Fault, 1 }, false},
		{func(s *impl.State) { end(s); s.Value = 999 }, true},
		{func(s *impl.State) { end(s); s.Value = -999 }, true},
		{func(s *impl.State) { end(s); s.Value = 1000 }, false},
		{func(s *impl.State) { end(s); s.Value = -1000 }, false},
		// Calls, and frames for them.
		{func(s *impl.State) { s.Calls = 1 }, true},
		{func(s *impl.State) { s.Calls = 0 }, false},
		{func(s *impl.State) { s.Calls = -1 }, false},
		{func(s *impl.State) { s.Calls = 7 }, true},
		{func(s *impl.State) { s.Calls = 8 }, false},
		{func(s *impl.State) { s.Most = 40 }, true},
		{func(s *impl.State) { s.Most = 41 }, false},
		{func(s *impl.State) { s.Most, s.Calls = 40, 40 }, true},
		{func(s *impl.State) { s.Most, s.Calls = 41, 41 }, false},
		{func(s *impl.State) { s.Most = 2 }, false},
		{func(s *impl.State) { s.Most = -1 }, false},
		{func(s *impl.State) { end(s); s.Most, s.Calls = 0, 0 }, true},
		{func(s *impl.State) { end(s); s.Most, s.Calls = 0, -1 }, false},
		{func(s *impl.State) { end(s); s.Most, s.Calls = -1, -1 }, false},
		// What was printed.
		{func(s *impl.State) { s.Out = nil }, true},
		{func(s *impl.State) { s.Out = make([]int, 100000) }, true},
		{func(s *impl.State) { s.Out[2] = 1000 }, false},
		{func(s *impl.State) { s.Out[0] = -1000 }, false},
		{func(s *impl.State) { s.Out[1] = 1 << 62 }, false},
	})
}

func TestValidStateOfFrames(t *testing.T) {
	checkStates(t, []stating{
		{func(s *impl.State) { s.Frames = nil }, false},
		{func(s *impl.State) { s.Frames = s.Frames[:1] }, false},
		{func(s *impl.State) { s.Frames[0], s.Frames[1] = s.Frames[1], s.Frames[0] }, false},
		// Procedures and instructions.
		{func(s *impl.State) { s.Frames[1].Proc = 0 }, true},
		{func(s *impl.State) { s.Frames[1].Proc = 3 }, true},
		{func(s *impl.State) { s.Frames[1].Proc = 4 }, false},
		{func(s *impl.State) { s.Frames[1].Proc = -1 }, false},
		{func(s *impl.State) { s.Frames[0].Proc = 1 << 62 }, false},
		{func(s *impl.State) { s.Frames[0].At = 2 }, true},
		{func(s *impl.State) { s.Frames[0].At = 3 }, false},
		{func(s *impl.State) { s.Frames[0].At = -1 }, false},
		{func(s *impl.State) { s.Frames[1].At = 1 }, false},
		{func(s *impl.State) { s.Frames[1].At = 1 << 62 }, false},
		// As many numbers as registers.
		{func(s *impl.State) { s.Frames[0].Regs = s.Frames[0].Regs[:5] }, false},
		{func(s *impl.State) { s.Frames[0].Own = s.Frames[0].Own[:5] }, false},
		{func(s *impl.State) { s.Frames[0].Held = s.Frames[0].Held[:5] }, false},
		{func(s *impl.State) { s.Frames[1].Regs = append(s.Frames[1].Regs, 0) }, false},
		{func(s *impl.State) { s.Frames[1].Own = append(s.Frames[1].Own, 0) }, false},
		{func(s *impl.State) { s.Frames[1].Held = append(s.Frames[1].Held, 0) }, false},
		{func(s *impl.State) { s.Frames[1].Regs = nil }, false},
		{func(s *impl.State) { s.Frames[1].Own = nil }, false},
		{func(s *impl.State) { s.Frames[1].Held = nil }, false},
		// Words of registers: integers and pointers, whether they lead to live cells or not.
		{func(s *impl.State) { s.Frames[0].Regs[5] = 999 }, true},
		{func(s *impl.State) { s.Frames[0].Regs[5] = -999 }, true},
		{func(s *impl.State) { s.Frames[0].Regs[5] = -1000 }, false},
		{func(s *impl.State) { s.Frames[0].Regs[5] = -1 << 63 }, false},
		{func(s *impl.State) { s.Frames[0].Regs[5] = 1000 }, true},
		{func(s *impl.State) { s.Frames[0].Regs[5] = 1002 }, true},
		{func(s *impl.State) { s.Frames[0].Regs[5] = 1003 }, true},
		{func(s *impl.State) { s.Frames[0].Regs[5] = 1007 }, true},
		{func(s *impl.State) { s.Frames[0].Regs[5] = 1<<63 - 1 }, true},
		// The register that waits for a result.
		{func(s *impl.State) { s.Frames[0].Dst = 1 }, false},
		{func(s *impl.State) { s.Frames[0].Dst = -1 }, false},
		{func(s *impl.State) { s.Frames[1].Dst = 0 }, false},
		{func(s *impl.State) { s.Frames[1].Dst = 3 }, false},
		{func(s *impl.State) { s.Frames[1].Dst = 2 }, true},
		{func(s *impl.State) { s.Frames[1].Dst = 5 }, true},
		{func(s *impl.State) { s.Frames[1].Dst = 6 }, false},
		{func(s *impl.State) { s.Frames[1].Dst = -1 }, false},
		{func(s *impl.State) { s.Frames[1].Dst = 1 << 62 }, false},
	})
}

func TestValidStateOfOwnedRegisters(t *testing.T) {
	checkStates(t, []stating{
		// Each reference is counted, and nothing else.
		{func(s *impl.State) { s.Heap[0].Count = 3 }, false},
		{func(s *impl.State) { s.Heap[0].Count = 1 }, false},
		{func(s *impl.State) { s.Heap[1].Count = 2 }, false},
		{func(s *impl.State) { s.Heap[4].Count = 1 }, false},
		{func(s *impl.State) { s.Frames[0].Own[0] = 0 }, false},
		{func(s *impl.State) { s.Frames[0].Own[0] = 2 }, false},
		{func(s *impl.State) { s.Frames[1].Own[1] = 1 }, false},
		{func(s *impl.State) { s.Frames[1].Own[1] = 1; s.Heap[0].Count = 3 }, true},
		{func(s *impl.State) { s.Frames[1].Own[0] = 1; s.Heap[4].Count = 1 }, true},
		{func(s *impl.State) { s.Frames[1].Own[0] = 999999; s.Heap[4].Count = 999999 }, true},
		{func(s *impl.State) { s.Frames[1].Own[0] = 1000000; s.Heap[4].Count = 1000000 }, false},
		{func(s *impl.State) { s.Frames[0].Own[0] = 999998; s.Heap[0].Count = 999999 }, true},
		{func(s *impl.State) { s.Frames[0].Own[0] = 999999; s.Heap[0].Count = 1000000 }, false},
		{func(s *impl.State) { s.Frames[1].Regs[1] = 1004; s.Frames[1].Own[1] = -1; s.Heap[4].Count = 1 }, false},
		{func(s *impl.State) { s.Frames[1].Own[0] = -2 }, false},
		{func(s *impl.State) { s.Frames[1].Own[0] = 0; s.Heap[4] = free() }, true},
		{func(s *impl.State) { s.Frames[0].Own[0] = 0; s.Heap[0].Count = 1 }, true},
		{func(s *impl.State) { s.Heap[1].Fields[1] = 6; s.Heap[0].Count = 1 }, true},
		{func(s *impl.State) { s.Heap[1].Fields[1] = 6 }, false},
		{func(s *impl.State) { s.Heap[4].Fields[0] = 1000; s.Heap[0].Count = 3 }, true},
		{func(s *impl.State) { s.Heap[4].Fields[0] = 1000 }, false},
		// Only a register with a pointer to a live cell can be owned.
		{func(s *impl.State) { s.Frames[1].Own[2] = 1 }, false},
		{func(s *impl.State) { s.Frames[1].Own[2] = -1 }, false},
		{func(s *impl.State) { s.Frames[0].Own[2] = 1 }, false},
		{func(s *impl.State) { s.Frames[1].Regs[2] = 1002; s.Frames[1].Own[2] = 1 }, false},
		{func(s *impl.State) { s.Frames[1].Regs[2] = 1007; s.Frames[1].Own[2] = 1 }, false},
		{func(s *impl.State) { s.Frames[1].Regs[2] = 1<<63 - 1; s.Frames[1].Own[2] = 1 }, false},
		// A cell to which nothing refers.
		{func(s *impl.State) { s.Heap[3] = nil1 }, false},
		{func(s *impl.State) { s.Heap[3] = nil1; s.Frames[0].Own[2] = 1 }, true},
		{func(s *impl.State) { s.Heap = append(s.Heap, nil1) }, false},
		{func(s *impl.State) { s.Heap = append(s.Heap, nil1, live(1, 0, 1007)) }, false},
	})
}

func TestValidStateOfKeptCells(t *testing.T) {
	checkStates(t, []stating{
		// Each kept cell is held exactly once.
		{func(s *impl.State) { s.Frames[0].Held[3] = 0 }, false},
		{func(s *impl.State) { s.Frames[0].Held[3] = 1006 }, false},
		{func(s *impl.State) { s.Frames[0].Held[3], s.Frames[1].Held[3] = 1006, 1002 }, true},
		{func(s *impl.State) { s.Frames[0].Held[3], s.Frames[1].Held[0] = 0, 1002 }, true},
		{func(s *impl.State) { s.Frames[1].Held[0] = 1002 }, false},
		{func(s *impl.State) { s.Frames[0].Held[0] = 1002 }, false},
		{func(s *impl.State) { s.Frames[0].Held[3] = 0; s.Heap[2] = free() }, true},
		{func(s *impl.State) { s.Heap[2] = free() }, false},
		{func(s *impl.State) { s.Heap = s.Heap[:5] }, false},
		{func(s *impl.State) { s.Heap = s.Heap[:5]; s.Frames[1].Held[3] = 0 }, true},
		{func(s *impl.State) { s.Heap[3] = keep(3) }, false},
		{func(s *impl.State) { s.Heap[3] = keep(3); s.Frames[0].Held[1] = 1003 }, true},
		{func(s *impl.State) { s.Heap[2] = keep(3) }, true},
		// Only kept cells are held, by pointers.
		{func(s *impl.State) { s.Frames[1].Held[5] = 1000 }, false},
		{func(s *impl.State) { s.Frames[1].Held[5] = 1003 }, false},
		{func(s *impl.State) { s.Frames[1].Held[5] = 1007 }, false},
		{func(s *impl.State) { s.Frames[1].Held[5] = 1 }, false},
		{func(s *impl.State) { s.Frames[1].Held[5] = -1 }, false},
		{func(s *impl.State) { s.Frames[1].Held[5] = 999 }, false},
		{func(s *impl.State) { s.Frames[1].Held[5] = 1<<63 - 1 }, false},
		{func(s *impl.State) { s.Frames[1].Held[5] = -1 << 63 }, false},
		{func(s *impl.State) { s.Frames[0].Held[3] = 2 }, false},
		// The heap itself must be valid.
		{func(s *impl.State) { s.Heap = append(s.Heap, free()) }, false},
		{func(s *impl.State) { s.Heap[2].Fields[1] = 1 }, false},
		{func(s *impl.State) { s.Heap[3].Tag = 1 }, false},
		{func(s *impl.State) { s.Heap[4].Tag = 100 }, false},
		{func(s *impl.State) { s.Heap[4].Fields[0] = 1000 + 4; s.Frames[1].Own[0] = 1 }, false},
	})
}

// spoiltState returns a state of its own with a change, which may leave it valid.
func (m *maker) spoiltState(s impl.State) impl.State {
	out := copyState(s)
	switch m.pick(9) {
	case 0:
		out.Status = m.pick(6) - 1
		return out
	case 1:
		out.Value = m.pickOf([]int{-1000, -999, -1, 0, 1, 999, 1000})
		return out
	case 2:
		out.Calls = m.oddNumber(out.Calls)
		return out
	case 3:
		out.Most = m.pickOf([]int{-1, 0, out.Calls - 1, out.Calls, 40, 41})
		return out
	case 4:
		out.Out = append(out.Out, m.pickOf([]int{-1000, -999, 0, 999, 1000, 1 << 62}))
		return out
	case 5:
		out.Heap = m.spoiltHeap(out.Heap)
		return out
	}
	if len(out.Frames) > 0 {
		m.spoilFrame(&out)
	}
	return out
}

// spoilFrame changes something in a frame.
func (m *maker) spoilFrame(s *impl.State) {
	k := m.pick(len(s.Frames))
	f := &s.Frames[k]
	r := m.pick(len(f.Regs))
	switch m.pick(11) {
	case 0:
		f.Proc = m.oddNumber(f.Proc)
	case 1:
		f.At = m.oddNumber(f.At)
	case 2:
		f.Dst = m.oddNumber(f.Dst)
	case 3:
		f.Regs = m.withNumber(f.Regs)
	case 4:
		f.Regs[r] = m.pickOf([]int{-1000, -999, 0, 999, 1000 + m.pick(len(s.Heap)+2), 1<<63 - 1})
	case 5:
		f.Own = m.withNumber(f.Own)
	case 6, 7:
		f.Own[r] += m.pick(3) - 1
		if i := f.Regs[r] - 1000; i >= 0 && i < len(s.Heap) && m.pick(2) == 0 {
			s.Heap[i].Count = m.pickOf([]int{s.Heap[i].Count - 1, s.Heap[i].Count + 1})
		}
	case 8:
		f.Held[r] = m.pickOf([]int{0, 0, 1, 1000 + m.pick(len(s.Heap)+1)})
	case 9:
		if other := s.Frames[m.pick(len(s.Frames))].Held; len(other) > 0 {
			v := m.pick(len(other))
			f.Held[r], other[v] = other[v], f.Held[r]
		}
	case 10:
		s.Frames = append(s.Frames[:k], s.Frames[k+m.pick(2):]...)
	}
}

func TestValidStateAgreesWithTheSecondWay(t *testing.T) {
	m := maker{seed: 150}
	valid, not := 0, 0
	for _, x := range scenes() {
		for try := 0; try < 6; try++ {
			other := m.spoiltState(x.s)
			want := stateFits(x.im, other)
			if impl.ValidState(x.im, other) != want {
				t.Fatalf("ValidState of %s = %v", showState(other), !want)
			}
			if want {
				valid++
			} else {
				not++
			}
		}
	}
	if valid < 3000 || not < 3000 {
		t.Errorf("%d states are valid, and %d are not", valid, not)
	}
}

func TestStartState(t *testing.T) {
	im, _ := waiting()
	im.Procs[0].Regs = 2
	for _, most := range []int{0, 1, 17, 40} {
		s, ok := impl.StartState(im, most)
		want := impl.State{Status: impl.Running, Most: most, Frames: []impl.Frame{{Regs: []int{0, 0}, Own: []int{0, 0}, Held: []int{0, 0}}}}
		if !ok || text(s) != text(want) {
			t.Errorf("StartState = %v, %v", s, ok)
		}
	}
	im.Procs[0].Regs = 2000
	if s, ok := impl.StartState(im, 0); !ok || len(s.Frames[0].Regs) != 2000 || len(s.Frames[0].Own) != 2000 || len(s.Frames[0].Held) != 2000 {
		t.Error("StartState with 2000 registers")
	}
}

// failsToRun tells if a function of the machine takes an image and a state that it should not.
func failsToRun(t *testing.T, im impl.Image, s impl.State) {
	t.Helper()
	for many := -1; many <= 2; many++ {
		if out, ok := impl.RunState(im, s, many); ok || text(out) != text(impl.State{}) {
			t.Errorf("RunState(%.200s, %.200s, %d) = %v, %v", text(im), text(s), many, out, ok)
		}
	}
	if out, ok := impl.StepState(im, s); ok || text(out) != text(impl.State{}) {
		t.Errorf("StepState(%.200s, %.200s) = %v, %v", text(im), text(s), out, ok)
	}
	if impl.ValidState(im, s) {
		t.Errorf("ValidState(%.200s, %.200s) = true", text(im), text(s))
	}
}

// failsToStart tells if a function of the machine takes an image and a number of calls that it should not.
func failsToStart(t *testing.T, im impl.Image, most int) {
	t.Helper()
	if out, ok := impl.StartState(im, most); ok || text(out) != text(impl.State{}) {
		t.Errorf("StartState(%.200s, %d) = %v, %v", text(im), most, out, ok)
	}
	if out, ok := impl.Execute(im, most); ok || text(out) != text(impl.Outcome{}) {
		t.Errorf("Execute(%.200s, %d) = %v, %v", text(im), most, out, ok)
	}
	if out, ok := impl.StatsOf(im, most); ok || out != (impl.Stats{}) {
		t.Errorf("StatsOf(%.200s, %d) = %v, %v", text(im), most, out, ok)
	}
}

// badImages returns images that are not valid.
func badImages() []impl.Image {
	out := []impl.Image{{}, imageOf(), imageOf(back(6)), imageOf(longCode(2001)...), withInstr(imageOf(back(0)), 0, 1, back(6)), withInstr(imageOf(back(0)), 2, 0, move(0, 0))}
	m := maker{seed: 33}
	for _, im := range images()[:600] {
		if other := m.spoilt(im); !imageFits(other) {
			out = append(out, other)
		}
	}
	return out
}

func TestTheMachineOfInvalidArguments(t *testing.T) {
	im, s := waiting()
	for _, most := range []int{-1, 41, -1 << 63, 1 << 62, 1<<63 - 1} {
		failsToStart(t, im, most)
	}
	for _, many := range []int{-1, 100001, -1 << 63, 1<<63 - 1} {
		if out, ok := impl.RunState(im, s, many); ok || text(out) != text(impl.State{}) {
			t.Errorf("RunState of %d instructions = %v, %v", many, out, ok)
		}
		if out, ok := impl.RunState(im, impl.State{}, many); ok || text(out) != text(impl.State{}) {
			t.Errorf("RunState of %d instructions = %v, %v", many, out, ok)
		}
	}
	if _, ok := impl.RunState(im, s, 100000); !ok {
		t.Error("RunState of 100000 instructions fails")
	}
	for _, bad := range badImages() {
		failsToStart(t, bad, 3)
		failsToRun(t, bad, impl.State{})
		failsToRun(t, bad, s)
	}
	m := maker{seed: 34}
	for i, x := range scenes() {
		if other := m.spoiltState(x.s); i%3 == 0 && !stateFits(x.im, other) {
			failsToRun(t, x.im, other)
		}
	}
	// A state of one image need not be one of another image.
	short := changedImage(im, func(im *impl.Image) { im.Procs[2].Regs = 5 })
	failsToRun(t, short, s)
	failsToRun(t, changedImage(im, func(im *impl.Image) { im.Procs[3].Code = im.Procs[3].Code[2:] }), s)
}

func TestStepStateAgreesWithTheSecondWay(t *testing.T) {
	eachStep(t, func(im impl.Image, s impl.State, next impl.State) {
		if want := stepMeaning(im, s); !sameState(next, want) {
			t.Fatalf("StepState of %v at %s = %s, want %s", im, showState(s), showState(next), showState(want))
		}
	})
}

// outcomeOf returns what Execute should for the state in which an image stops.
func outcomeOf(s impl.State) impl.Outcome {
	return impl.Outcome{Status: s.Status, Value: s.Value, Calls: s.Calls, Out: s.Out}
}

// ran returns the outcome of an image.
func ran(t *testing.T, im impl.Image, most int) impl.Outcome {
	t.Helper()
	o, ok := impl.Execute(im, most)
	if !ok {
		t.Fatalf("Execute(%v, %d) fails", im, most)
	}
	return o
}

// whole returns the state in which an image stops.
func whole(t *testing.T, im impl.Image, most int) impl.State {
	t.Helper()
	s, _ := impl.StartState(im, most)
	out, ok := impl.RunState(im, s, 100000)
	if !ok || out.Status == impl.Running {
		t.Fatalf("RunState of %v, %d = %v, %v", im, most, out, ok)
	}
	return out
}

// execution is code of the procedure 0, and what comes of it with at most 5 calls.
type execution struct {
	code []impl.Instr
	want string
}

func TestExecute(t *testing.T) {
	for _, c := range []execution{
		{[]impl.Instr{back(0)}, "{Status:0 Value:0 Calls:0 Out:[]}"},
		{[]impl.Instr{to(3, impl.OpInt, -7), printTo(2, 3), printTo(2, 2), back(3)}, "{Status:0 Value:-7 Calls:0 Out:[-7 -7]}"},
		// Images with calls that never end, and just as many calls as there may be.
		{[]impl.Instr{printTo(1, 0), callTo(2, 0), back(2)}, "{Status:1 Value:0 Calls:5 Out:[0 0 0 0 0 0]}"},
		{[]impl.Instr{printTo(1, 0), tailTo(0)}, "{Status:1 Value:0 Calls:5 Out:[0 0 0 0 0 0]}"},
		{[]impl.Instr{callTo(2, 2, 0), callTo(2, 2, 2), callTo(2, 2, 2), callTo(2, 2, 2), callTo(2, 2, 2), back(2)}, "{Status:0 Value:0 Calls:5 Out:[]}"},
		{[]impl.Instr{callTo(2, 2, 0), callTo(2, 2, 2), callTo(2, 2, 2), callTo(2, 2, 2), callTo(2, 2, 2), printTo(2, 2), callTo(2, 2, 2), back(2)}, "{Status:1 Value:0 Calls:5 Out:[0]}"},
		// What cannot be executed.
		{[]impl.Instr{printTo(1, 0), in(impl.OpDrop, 0, 0), back(0)}, "{Status:2 Value:0 Calls:0 Out:[0]}"},
		{[]impl.Instr{callTo(1, 2, 0), conTo(1, 0), back(1)}, "{Status:2 Value:0 Calls:1 Out:[]}"},
		{[]impl.Instr{conTo(1, 0), back(0)}, "{Status:2 Value:0 Calls:0 Out:[]}"},
		// Results that are returned to registers that are not 0, and words that these have had.
		{[]impl.Instr{conTo(1, 0), callTo(4, 2, 1), callTo(5, 2, 4), callTo(4, 2, 5), in(impl.OpDrop, 0, 4), to(4, impl.OpInt, 9), back(4)}, "{Status:0 Value:9 Calls:3 Out:[]}"},
		{[]impl.Instr{conTo(1, 0), callTo(4, 2, 1), back(4)}, "{Status:2 Value:0 Calls:1 Out:[]}"},
		{[]impl.Instr{closeTo(1, 2), to(2, impl.OpInt, 8), in(impl.OpDup, 0, 1), to(3, impl.OpApply, 0, 1, 2), to(4, impl.OpApply, 0, 1, 3), back(4)}, "{Status:0 Value:8 Calls:2 Out:[]}"},
		{[]impl.Instr{closeTo(1, 2), to(2, impl.OpInt, 8), to(3, impl.OpApply, 0, 1, 2), to(4, impl.OpApply, 0, 1, 3), back(4)}, "{Status:2 Value:0 Calls:1 Out:[]}"},
		// Kept cells must be used before a frame ends.
		{[]impl.Instr{conTo(1, 0), in(impl.OpReuse, 0, 1), back(0)}, "{Status:2 Value:0 Calls:0 Out:[]}"},
		{[]impl.Instr{conTo(1, 0), in(impl.OpReuse, 0, 1), tailTo(0)}, "{Status:2 Value:0 Calls:0 Out:[]}"},
		{[]impl.Instr{conTo(1, 0), in(impl.OpReuse, 0, 1), callTo(3, 2, 0), intoOf(1, conTo(4, 0)), in(impl.OpDrop, 0, 4), back(3)}, "{Status:0 Value:0 Calls:1 Out:[]}"},
	} {
		im := imageOf(back(0))
		im.Procs[0].Code = c.code
		if got := text(ran(t, im, 5)); got != c.want {
			t.Errorf("Execute of %s = %s, want %s", showCode(c.code), got, c.want)
		}
		if got := text(outcomeOf(whole(t, im, 5))); got != c.want {
			t.Errorf("RunState of %s = %s, want %s", showCode(c.code), got, c.want)
		}
	}
}

func TestExecuteOfTheExample(t *testing.T) {
	for _, im := range programImages()[:16] {
		if got := text(ran(t, im, 40)); got != "{Status:0 Value:12 Calls:3 Out:[]}" {
			t.Errorf("Execute = %s", got)
		}
		if got := text(ran(t, im, 2)); got != "{Status:1 Value:0 Calls:2 Out:[]}" {
			t.Errorf("Execute with two calls = %s", got)
		}
	}
}

// longImage returns an image with as many instructions, registers and calls as there may be: each call makes a list longer by almost 2000 cells.
func longImage(tail bool) impl.Image {
	code := []impl.Instr{to(1, impl.OpInt, 7)}
	for k := 0; k < 1996; k++ {
		code = append(code, conTo(2+k, 1, 1, (1+k)*min(k, 1)))
	}
	last := callTo(0, 1, 1997)
	if tail {
		last = tailTo(1, 1997)
	}
	code = append(code, last, in(impl.OpDrop, 0, 0), back(1))
	start := []impl.Instr{conTo(1, 0), callTo(0, 1, 1), in(impl.OpDrop, 0, 0), to(0, impl.OpInt, 3), back(0)}
	return impl.Image{Decls: lists(), Procs: []impl.Proc{{Regs: 2, Code: start}, {Params: []int{1}, Result: 1, Regs: 2000, Code: code}}}
}

func TestLongRuns(t *testing.T) {
	for _, tail := range []bool{false, true} {
		im := longImage(tail)
		s := whole(t, im, 40)
		if s.Status != impl.Spent || s.Calls != 40 || len(s.Heap) != 1+40*1996 || !impl.ValidState(im, s) {
			t.Errorf("RunState stops with %d calls and %d cells", s.Calls, len(s.Heap))
		}
		c, ok := impl.StatsOf(im, 40)
		want := impl.Stats{Steps: 2 + 40*1998, Allocs: 1 + 40*1996, Peak: 1 + 40*1996, Depth: 41, Shared: 1}
		if tail {
			want.Depth = 2
		}
		if !ok || c != want {
			t.Errorf("StatsOf = %v, want %v", c, want)
		}
		if len(impl.NeededCells(im, s)) != len(s.Heap) || len(impl.Garbage(im, s)) != 0 || len(impl.OwnedCells(im, s)) != 1 {
			t.Error("the cells of a long run are not needed")
		}
	}
}

// Cells that become free far from each other are found again.
func TestFreePlacesAreFound(t *testing.T) {
	var code []impl.Instr
	for r := 0; r < 900; r++ {
		code = append(code, conTo(r, 0))
	}
	for k := 0; k < 300; k++ {
		code = append(code, in(impl.OpDrop, 0, k*7%900), in(impl.OpDrop, 0, 899-k*7%900), conTo(k*7%900, 0))
	}
	code = append(code, tailTo(0))
	im := impl.Image{Decls: lists(), Procs: []impl.Proc{{Regs: 900, Code: code}}}
	s, _ := impl.StartState(im, 0)
	for s.Status == impl.Running {
		next, ok := impl.RunState(im, s, 50)
		if want := stepped(im, s, 50); !ok || !sameState(next, want) {
			t.Fatalf("RunState at %s = %s, want %s", showState(s), showState(next), showState(want))
		}
		s = next
	}
}

// stepped returns the state after some instructions, in the second way.
func stepped(im impl.Image, s impl.State, many int) impl.State {
	for range many {
		s = stepMeaning(im, s)
	}
	return s
}

func TestP115FlatCodeDoesWhatNormalFormsDo(t *testing.T) {
	for _, n := range append(balancedVariants(), keptForms(t)...) {
		im := flattened(t, n)
		for _, most := range []int{0, 1, 2, 5, 40} {
			if got, want := text(ran(t, im, most)), text(executed(t, n, most)); got != want {
				t.Fatalf("Execute(%v, %d) = %s, want %s", im, most, got, want)
			}
		}
	}
}

func TestP137StatesCanHavePrintedNothing(t *testing.T) {
	someStates(func(im impl.Image, s impl.State) {
		other := s
		other.Out = nil
		if !impl.ValidState(im, s) || !impl.ValidState(im, other) {
			t.Fatalf("ValidState of %s = false", showState(s))
		}
		for other.Most = s.Most; other.Most < 40; other.Most += 7 {
			if !impl.ValidState(im, other) {
				t.Fatalf("ValidState of %s with %d calls = false", showState(s), other.Most)
			}
		}
		other.Most = 40
		if !impl.ValidState(im, other) || s.Status == impl.Done && len(s.Heap) > 0 {
			t.Fatalf("ValidState of %s = false", showState(s))
		}
		if other.Most = 41; impl.ValidState(im, other) {
			t.Fatalf("ValidState of %s with 41 calls = true", showState(s))
		}
	})
}

func TestP138CountsAreReferences(t *testing.T) {
	shared := 0
	someStates(func(im impl.Image, s impl.State) {
		counts, refs := 0, 0
		for _, c := range s.Heap {
			counts += max(0, c.Count)
			for _, w := range c.Fields {
				if w >= 1000 {
					refs++
				}
			}
		}
		for _, f := range s.Frames {
			for _, own := range f.Own {
				refs += own
			}
		}
		if counts != refs {
			t.Fatalf("the state %s has %d references, and counts %d", showState(s), refs, counts)
		}
		// One reference more or less is noticed.
		for i, c := range s.Heap {
			if c.Count <= 0 {
				continue
			}
			if shared++; shared%9 > 0 {
				continue
			}
			other := copyState(s)
			other.Heap[i].Count++
			if impl.ValidState(im, other) {
				t.Fatalf("ValidState of %s = true", showState(other))
			}
			if other.Heap[i].Count -= 2; impl.ValidState(im, other) {
				t.Fatalf("ValidState of %s = true", showState(other))
			}
		}
	})
}

func TestP139KeptCellsAreHeld(t *testing.T) {
	seen := 0
	someStates(func(im impl.Image, s impl.State) {
		kept, held := 0, 0
		for _, c := range s.Heap {
			if c.Count == -1 {
				kept++
			}
		}
		for k, f := range s.Frames {
			for r, w := range f.Held {
				if w == 0 {
					continue
				}
				held++
				other := copyState(s)
				other.Frames[k].Held[r] = 0
				if impl.ValidState(im, other) {
					t.Fatalf("ValidState of %s = true", showState(other))
				}
			}
		}
		if kept != held {
			t.Fatalf("the state %s has %d kept cells and holds %d", showState(s), kept, held)
		}
		seen += kept
	})
	if seen < 1000 {
		t.Errorf("only %d cells are kept", seen)
	}
}

func TestP140ImagesBeginWithOneFrame(t *testing.T) {
	for i, im := range images() {
		most := i % 41
		s, ok := impl.StartState(im, most)
		if !ok || !impl.ValidState(im, s) || s.Status != impl.Running || s.Most != most || s.Calls != 0 || s.Value != 0 || len(s.Out) > 0 || len(s.Heap) > 0 || len(s.Frames) != 1 {
			t.Fatalf("StartState(%v, %d) = %v, %v", im, most, s, ok)
		}
		f, nothing := s.Frames[0], make([]int, im.Procs[0].Regs)
		if f.Proc != 0 || f.At != 0 || f.Dst != 0 || !same(f.Regs, nothing...) || !same(f.Own, nothing...) || !same(f.Held, nothing...) {
			t.Fatalf("StartState(%v, %d) = %v", im, most, s)
		}
	}
}

func TestP141StepsLeadToValidStates(t *testing.T) {
	eachStep(t, func(im impl.Image, s impl.State, next impl.State) {
		if !impl.ValidState(im, next) {
			t.Fatalf("StepState of %v at %s = %s", im, showState(s), showState(next))
		}
	})
	for _, x := range scenes() {
		if next, _ := impl.StepState(x.im, x.s); !stateFits(x.im, next) {
			t.Fatalf("StepState of %v at %s = %s", x.im, showState(x.s), showState(next))
		}
	}
}

func TestP142StoppingChangesStatusAlone(t *testing.T) {
	stops := make(map[int]int)
	eachStep(t, func(im impl.Image, s impl.State, next impl.State) {
		if s.Status == impl.Running && (next.Status == impl.Running || next.Status == impl.Done) {
			return
		}
		stops[next.Status]++
		if s.Status != impl.Running && next.Status != s.Status {
			t.Fatalf("StepState at %s = %s", showState(s), showState(next))
		}
		if next.Status = s.Status; !sameState(next, s) {
			t.Fatalf("StepState at %s = %s", showState(s), showState(next))
		}
	})
	if stops[impl.Spent] < 300 || stops[impl.Fault] < 300 || stops[impl.Done] < 100 {
		t.Errorf("the runs stop with %v", stops)
	}
}

// aliveIn returns the number of live cells of a heap.
func aliveIn(h []impl.Cell) int {
	return len(pointers(h))
}

func TestP143StepsAreSmall(t *testing.T) {
	eachStep(t, func(im impl.Image, s impl.State, next impl.State) {
		if next.Calls > s.Calls+1 || next.Calls < s.Calls || len(next.Frames) > len(s.Frames)+1 || aliveIn(next.Heap) > aliveIn(s.Heap)+1 || len(next.Out) > len(s.Out)+1 || !begins(next.Out, s.Out) || next.Most != s.Most {
			t.Fatalf("StepState at %s = %s", showState(s), showState(next))
		}
		if !moves(s, next) {
			return
		}
		x := nextIn(im, s)
		name := opName(x.Op)
		calls := name == "call" || name == "apply" || name == "tail"
		if (next.Calls > s.Calls) != calls || (len(next.Out) > len(s.Out)) != (name == "print") || (len(next.Frames) > len(s.Frames)) != (name == "call" || name == "apply") || (len(next.Frames) < len(s.Frames)) != (name == "return") {
			t.Fatalf("StepState of %s at %s = %s", showInstr(x), showState(s), showState(next))
		}
		if made := name == "con" || name == "close"; made != (aliveIn(next.Heap) > aliveIn(s.Heap)) {
			t.Fatalf("StepState of %s at %s = %s", showInstr(x), showState(s), showState(next))
		}
	})
}

func TestP144OnlyTheInnermostFramesChange(t *testing.T) {
	deep := 0
	eachStep(t, func(im impl.Image, s impl.State, next impl.State) {
		for k := 0; k < len(s.Frames)-2; k++ {
			deep++
			if !sameFrame(next.Frames[k], s.Frames[k]) {
				t.Fatalf("StepState at %s = %s", showState(s), showState(next))
			}
		}
		// Only a result changes the frame before the last one, and only where it is returned to.
		if k := len(s.Frames) - 2; k >= 0 && moves(s, next) {
			before, now := s.Frames[k], next.Frames[k]
			if opName(nextIn(im, s).Op) == "return" {
				dst := s.Frames[k+1].Dst
				now = copyState(next).Frames[k]
				now.Regs[dst], now.Own[dst] = before.Regs[dst], before.Own[dst]
			}
			if !sameFrame(now, before) {
				t.Fatalf("StepState at %s = %s", showState(s), showState(next))
			}
		}
	})
	if deep < 5000 {
		t.Errorf("only %d frames are far from the last one", deep)
	}
}

func TestP145DupsAndDropsCount(t *testing.T) {
	seen := make(map[string]int)
	eachStep(t, func(im impl.Image, s impl.State, next impl.State) {
		if !moves(s, next) {
			return
		}
		x := nextIn(im, s)
		name := opName(x.Op)
		if name != "dup" && name != "drop" {
			return
		}
		seen[name]++
		want := copyState(s)
		f := &want.Frames[len(want.Frames)-1]
		r := x.Args[0]
		i := f.Regs[r] - 1000
		f.At++
		if name == "dup" {
			f.Own[r]++
			want.Heap[i].Count++
		} else {
			f.Own[r]--
			want.Heap = dropMeaning(want.Heap, 1000+i)
		}
		if !sameState(next, want) {
			t.Fatalf("StepState of %s at %s = %s, want %s", showInstr(x), showState(s), showState(next), showState(want))
		}
	})
	if seen["dup"] < 1000 || seen["drop"] < 1000 {
		t.Errorf("there are %v", seen)
	}
}

func TestP146TakingApartMakesFieldsOwned(t *testing.T) {
	kept, freed, shared := 0, 0, 0
	eachStep(t, func(im impl.Image, s impl.State, next impl.State) {
		if !moves(s, next) {
			return
		}
		x := nextIn(im, s)
		name := opName(x.Op)
		if name != "open" && name != "reuse" {
			return
		}
		before, now := s.Frames[len(s.Frames)-1], next.Frames[len(next.Frames)-1]
		more := make([]int, len(before.Own))
		copy(more, before.Own)
		more[x.Args[0]]--
		for _, r := range x.Args[1:] {
			more[r]++
		}
		if !same(now.Own, more...) || !same(now.Regs, before.Regs...) {
			t.Fatalf("StepState of %s at %s = %s", showInstr(x), showState(s), showState(next))
		}
		i := before.Regs[x.Args[0]] - 1000
		held := now.Held[x.Args[0]]
		switch {
		case s.Heap[i].Count > 1:
			shared++
			if !isThere(next.Heap, i) || next.Heap[i].Count != s.Heap[i].Count-1 || held != before.Held[x.Args[0]] {
				t.Fatalf("StepState of %s at %s = %s", showInstr(x), showState(s), showState(next))
			}
		case isThere(next.Heap, i):
			t.Fatalf("StepState of %s at %s = %s", showInstr(x), showState(s), showState(next))
		case name == "reuse":
			kept++
			if held != 1000+i || next.Heap[i].Count != -1 || len(next.Heap[i].Fields) != len(s.Heap[i].Fields) {
				t.Fatalf("StepState of %s at %s = %s", showInstr(x), showState(s), showState(next))
			}
		default:
			freed++
			if i < len(next.Heap) && next.Heap[i].Count != 0 {
				t.Fatalf("StepState of %s at %s = %s", showInstr(x), showState(s), showState(next))
			}
		}
	})
	if kept < 100 || freed < 100 || shared < 100 {
		t.Errorf("%d cells are kept, %d become free, and %d are shared", kept, freed, shared)
	}
}

func TestP147KeptCellsAreTakenFirst(t *testing.T) {
	taken, made := 0, 0
	eachStep(t, func(im impl.Image, s impl.State, next impl.State) {
		if !moves(s, next) {
			return
		}
		x := nextIn(im, s)
		if opName(x.Op) != "con" {
			return
		}
		before, now := s.Frames[len(s.Frames)-1], next.Frames[len(next.Frames)-1]
		w := now.Regs[x.Dst]
		var fields []int
		for _, r := range x.Args {
			fields = append(fields, before.Regs[r])
		}
		if text(next.Heap[w-1000]) != text(live(1, x.Num, fields...)) || now.Own[x.Dst] != 1 {
			t.Fatalf("StepState of %s at %s = %s", showInstr(x), showState(s), showState(next))
		}
		if x.Into > 0 && before.Held[x.Into-1] != 0 {
			taken++
			if len(next.Heap) != len(s.Heap) || w != before.Held[x.Into-1] || now.Held[x.Into-1] != 0 || s.Heap[w-1000].Count != -1 {
				t.Fatalf("StepState of %s at %s = %s", showInstr(x), showState(s), showState(next))
			}
			return
		}
		made++
		want, at := impl.AllocCell(s.Heap, x.Num, fields)
		if w != at || text(next.Heap) != text(want) || text(now.Held) != text(before.Held) {
			t.Fatalf("StepState of %s at %s = %s", showInstr(x), showState(s), showState(next))
		}
	})
	if taken < 100 || made < 1000 {
		t.Errorf("%d cells take the place of kept ones, and %d do not", taken, made)
	}
}

func TestP148RunsCanBeCut(t *testing.T) {
	m := maker{seed: 148}
	for _, w := range walks() {
		s, _ := impl.StartState(w.im, w.most)
		all := m.pick(120)
		some := m.pick(all + 1)
		want, ok := impl.RunState(w.im, s, all)
		first, fine := impl.RunState(w.im, s, some)
		second, well := impl.RunState(w.im, first, all-some)
		if !ok || !fine || !well || !sameState(second, want) {
			t.Fatalf("RunState of %v by %d and %d = %s, and by all of them %s", w.im, some, all-some, showState(second), showState(want))
		}
		if ended, ok := impl.RunState(w.im, first, 100000-some); !ok || text(ended) != text(whole(t, w.im, w.most)) {
			t.Fatalf("RunState of %v by %d and then all others = %s", w.im, some, showState(ended))
		}
	}
}

func TestP149RunsAreMadeOfSteps(t *testing.T) {
	eachStep(t, func(im impl.Image, s impl.State, next impl.State) {
		none, ok := impl.RunState(im, s, 0)
		one, fine := impl.RunState(im, s, 1)
		if !ok || !fine || !sameState(none, s) || !sameState(one, next) {
			t.Fatalf("RunState at %s by 0 = %s, and by 1 = %s", showState(s), showState(none), showState(one))
		}
	})
	for i, w := range walks() {
		s, _ := impl.StartState(w.im, w.most)
		want := s
		for range i % 60 {
			want, _ = impl.StepState(w.im, want)
		}
		if got, ok := impl.RunState(w.im, s, i%60); !ok || text(got) != text(want) {
			t.Fatalf("RunState of %v by %d = %s, want %s", w.im, i%60, showState(got), showState(want))
		}
	}
}

func TestP150ExecuteRunsToTheEnd(t *testing.T) {
	for _, w := range walks() {
		s := whole(t, w.im, w.most)
		if got, want := text(ran(t, w.im, w.most)), text(outcomeOf(s)); got != want {
			t.Fatalf("Execute(%v, %d) = %s, want %s", w.im, w.most, got, want)
		}
		if again, ok := impl.RunState(w.im, s, 100000); !ok || text(again) != text(s) {
			t.Fatalf("RunState at %s = %s", showState(s), showState(again))
		}
	}
}

func TestP151NothingIsLeftAtTheEnd(t *testing.T) {
	ended := 0
	for _, w := range walks() {
		if s := whole(t, w.im, w.most); s.Status == impl.Done {
			ended++
			if len(s.Heap) > 0 || len(s.Frames) > 0 {
				t.Fatalf("RunState of %v = %s", w.im, showState(s))
			}
		}
	}
	if ended < 200 {
		t.Errorf("only %d images are done", ended)
	}
}

func TestP152ImagesThatHaveStoppedNeedNoMoreCalls(t *testing.T) {
	statuses := make(map[int]int)
	for _, w := range walks() {
		all := ran(t, w.im, 40)
		for _, most := range []int{0, 1, 2, 3, 8, 39, w.most} {
			o := ran(t, w.im, most)
			statuses[o.Status]++
			if o.Status != impl.Spent && text(o) != text(all) {
				t.Fatalf("Execute(%v, %d) = %v, and with 40 calls %v", w.im, most, o, all)
			}
			if o.Status == impl.Spent && (o.Calls != most || o.Value != 0 || !begins(all.Out, o.Out) || all.Status == impl.Done && all.Calls <= most) {
				t.Fatalf("Execute(%v, %d) = %v, and with 40 calls %v", w.im, most, o, all)
			}
			if o.Calls > most {
				t.Fatalf("Execute(%v, %d) = %v", w.im, most, o)
			}
		}
	}
	if statuses[impl.Done] < 500 || statuses[impl.Spent] < 500 || statuses[impl.Fault] < 500 {
		t.Errorf("the images stop with %v", statuses)
	}
}

func TestP153BalancedCodeDoesNotFail(t *testing.T) {
	for _, n := range append(balancedVariants(), keptForms(t)...) {
		im := flattened(t, n)
		for _, most := range []int{0, 1, 3, 10, 40} {
			if o := ran(t, im, most); o.Status == impl.Fault {
				t.Fatalf("Execute(%v, %d) = %v", im, most, o)
			}
		}
	}
}
