package tests

import (
	"testing"

	"loop.example/refcountml/impl"
)

// stepping is an instruction, the registers of the frame in which it is executed and the heap, and the text of the state after it; "fault" where it cannot be executed.
// If there are registers of an outer frame, that waits for a result in its register dst.
type stepping struct {
	x     impl.Instr
	regs  string
	h     []impl.Cell
	want  string
	outer string
	dst   int
}

// stateFor returns the state before the instruction, which is the second one of six (amongOthers).
func (c stepping) stateFor() impl.State {
	s := impl.State{Status: impl.Running, Most: 5, Heap: copyCells(c.h)}
	if c.outer != "" {
		s.Calls = 1
		s.Frames = append(s.Frames, readFrame(4, c.outer))
	}
	f := readFrame(1, c.regs)
	f.Dst = c.dst
	s.Frames = append(s.Frames, f)
	return s
}

// checkSteppings tries instructions.
func checkSteppings(t *testing.T, rules []stepping) {
	t.Helper()
	for _, c := range rules {
		im, s := amongOthers(c.x), c.stateFor()
		if !impl.ValidState(im, s) || !stateFits(im, s) {
			t.Errorf("the state %s is not valid", showState(s))
			continue
		}
		got, ok := impl.StepState(im, s)
		if want := stepMeaning(im, s); !ok || text(got) != text(want) {
			t.Errorf("StepState of %s at %s = %s, and in the second way %s", showInstr(c.x), showState(s), showState(got), showState(want))
		}
		if c.want == "fault" {
			s.Status = impl.Fault
			if text(got) != text(s) {
				t.Errorf("StepState of %s at %s = %s, want %s", showInstr(c.x), showState(c.stateFor()), showState(got), showState(s))
			}
			continue
		}
		if showState(got) != c.want || got.Most != s.Most {
			t.Errorf("StepState of %s at %s = %s, want %s", showInstr(c.x), showState(s), showState(got), c.want)
		}
		if !impl.ValidState(im, got) {
			t.Errorf("StepState of %s at %s = %s, which is not valid", showInstr(c.x), showState(s), showState(got))
		}
	}
}

// nil1 is a cell that is referred to once, and has no fields.
var nil1 = live(1, 0)

func TestStepsOfIntegers(t *testing.T) {
	binary := func(op int) impl.Instr { return to(2, op, 0, 0, 1) }
	rules := []stepping{
		{x: to(5, impl.OpInt, -999), regs: "1 2", want: "running 3@2[1 2 0 0 0 -999] {}"},
		{x: to(0, impl.OpInt, 7), regs: "1 2", want: "running 3@2[7 2] {}"},
		{x: binary(impl.OpAdd), regs: "5 7", want: "running 3@2[5 7 12] {}"},
		{x: binary(impl.OpAdd), regs: "600 500", want: "running 3@2[600 500 999] {}"},
		{x: binary(impl.OpAdd), regs: "-600 -500", want: "running 3@2[-600 -500 -999] {}"},
		{x: binary(impl.OpSub), regs: "5 7", want: "running 3@2[5 7 -2] {}"},
		{x: binary(impl.OpSub), regs: "-999 1", want: "running 3@2[-999 1 -999] {}"},
		{x: binary(impl.OpMul), regs: "5 -7", want: "running 3@2[5 -7 -35] {}"},
		{x: binary(impl.OpMul), regs: "999 999", want: "running 3@2[999 999 999] {}"},
		{x: binary(impl.OpLess), regs: "5 7", want: "running 3@2[5 7 1] {}"},
		{x: binary(impl.OpLess), regs: "7 5 9", want: "running 3@2[7 5] {}"},
		{x: binary(impl.OpLess), regs: "7 7", want: "running 3@2[7 7] {}"},
		{x: to(0, impl.OpSub, 0, 0, 0), regs: "8", want: "running 3@2[] {}"},
		{x: to(0, impl.OpMul, 0, 0, 0), regs: "8", want: "running 3@2[64] {}"},
		{x: printTo(1, 0), regs: "-7", want: "running 3@2[-7 -7] {} out[-7]"},
		{x: printTo(0, 0), regs: "999", want: "running 3@2[999] {} out[999]"},
		{x: printTo(1, 0), regs: "", want: "running 3@2[] {} out[0]"},
		{x: printTo(1, 0), regs: "1000*1", h: heap(nil1), want: "fault"},
		{x: printTo(1, 0), regs: "1000", want: "fault"},
		{x: printTo(1, 0), regs: "5 1000*1", h: heap(nil1), want: "fault"},
		{x: branch(4, 0), regs: "0 1", want: "running 3@4[0 1] {}"},
		{x: branch(4, 0), regs: "1", want: "running 3@2[1] {}"},
		{x: branch(4, 0), regs: "-999", want: "running 3@2[-999] {}"},
		{x: branch(2, 0), regs: "", want: "running 3@2[] {}"},
		{x: branch(4, 0), regs: "1000*1", h: heap(nil1), want: "fault"},
		{x: branch(4, 0), regs: "1000", want: "fault"},
		{x: jump(4), regs: "1000*1 5", h: heap(nil1), want: "running 3@4[1000*1 5] {1:0()}"},
		{x: jump(2), regs: "", want: "running 3@2[] {}"},
	}
	for _, op := range []int{impl.OpAdd, impl.OpSub, impl.OpMul, impl.OpLess} {
		rules = append(rules,
			stepping{x: binary(op), regs: "5 1000*1", h: heap(nil1), want: "fault"}, stepping{x: binary(op), regs: "1000*1 5", h: heap(nil1), want: "fault"},
			stepping{x: binary(op), regs: "5 1000", want: "fault"}, stepping{x: binary(op), regs: "4611686018427387904 5", want: "fault"},
			stepping{x: binary(op), regs: "1 1 1000*1", h: heap(nil1), want: "fault"},
		)
	}
	checkSteppings(t, rules)
}

// Registers that are overwritten may have pointers, but must not own anything.
func TestStepsThatOverwriteRegisters(t *testing.T) {
	for _, x := range []impl.Instr{
		to(0, impl.OpInt, 9), to(0, impl.OpAdd, 0, 1, 1), to(0, impl.OpSub, 0, 1, 1), to(0, impl.OpMul, 0, 1, 1), to(0, impl.OpLess, 0, 1, 1), printTo(0, 1),
		conTo(0, 0), closeTo(0, 2), callTo(0, 0), move(0, 1), load(0, 0, 2), to(0, impl.OpApply, 0, 3, 1),
	} {
		h := heap(live(2, 1, 4, 6), live(1, 9))
		for _, c := range []stepping{
			{x: x, regs: "1000*1 3 1000*1 1001*1", h: h, want: "fault"},
			{x: x, regs: "1000*2 3 1000 1001*1", h: h, want: "fault"},
		} {
			checkSteppings(t, []stepping{c})
		}
		// What has been given up, or was never owned, can be overwritten, and what is held stays.
		for _, regs := range []string{"1000 3 1000*2 1001*1", "5 3 1000*2 1001*1", "1007 3 1000*2 1001*1", "4611686018427387904 3 1000*2 1001*1"} {
			im, s := amongOthers(x), stepping{x: x, regs: regs, h: h}.stateFor()
			out, ok := impl.StepState(im, s)
			if !ok || statusOf(out.Status) != "running" || text(out) != text(stepMeaning(im, s)) {
				t.Errorf("StepState of %s at %s = %s", showInstr(x), showState(s), showState(out))
			}
		}
		im, s := amongOthers(x), stepping{x: x, regs: "5^1002 3 1000*2 1001*1", h: append(h, keep(3))}.stateFor()
		out, ok := impl.StepState(im, s)
		if !ok || statusOf(out.Status) != "running" || out.Frames[0].Held[0] != 1002 || out.Heap[2].Count != -1 {
			t.Errorf("StepState of %s at %s = %s", showInstr(x), showState(s), showState(out))
		}
	}
}

// intoOf returns an OpCon instruction that uses the kept cell of a register, if there is one.
func intoOf(r int, x impl.Instr) impl.Instr {
	x.Into = r + 1
	return x
}

func TestStepsThatMakeCells(t *testing.T) {
	two := live(2, 0)
	checkSteppings(t, []stepping{
		{x: conTo(1, 0), regs: "", want: "running 3@2[0 1000*1] {1:0()}"},
		{x: conTo(2, 1, 0, 1), regs: "5 1000*1", h: heap(nil1), want: "running 3@2[5 1000 1001*1] {1:0() 1:1(5 1000)}"},
		{x: conTo(2, 1, 0, 0), regs: "5", want: "running 3@2[5 0 1000*1] {1:1(5 5)}"},
		// What is set is consumed.
		{x: conTo(1, 1, 0, 1), regs: "5 1000*1", h: heap(nil1), want: "running 3@2[5 1001*1] {1:0() 1:1(5 1000)}"},
		{x: conTo(1, 1, 0, 1), regs: "5 1000*2", h: heap(two), want: "fault"},
		{x: conTo(0, 2, 0, 0), regs: "1000*2", h: heap(two), want: "running 3@2[1001*1] {2:0() 1:2(1000 1000)}"},
		{x: conTo(0, 2, 0, 0), regs: "1000*3", h: heap(live(3, 0)), want: "fault"},
		// The same register twice or more.
		{x: conTo(2, 2, 0, 0), regs: "1000*2", h: heap(two), want: "running 3@2[1000 0 1001*1] {2:0() 1:2(1000 1000)}"},
		{x: conTo(2, 2, 0, 0), regs: "1000*1", h: heap(nil1), want: "fault"},
		{x: conTo(2, 3, 0, 0, 0), regs: "1000*3", h: heap(live(3, 0)), want: "running 3@2[1000 0 1001*1] {3:0() 1:3(1000 1000 1000)}"},
		{x: conTo(2, 3, 0, 0, 0), regs: "1000*2", h: heap(two), want: "fault"},
		{x: conTo(2, 3, 0, 1, 0), regs: "1000*2 1000*1", h: heap(live(3, 0)), want: "running 3@2[1000 1000 1001*1] {3:0() 1:3(1000 1000 1000)}"},
		{x: conTo(2, 3, 0, 1, 0), regs: "1000*1 1000*2", h: heap(live(3, 0)), want: "fault"},
		// What is consumed must be owned, and not only live.
		{x: conTo(2, 1, 0, 1), regs: "5 1000 0 1000*1", h: heap(nil1), want: "fault"},
		{x: conTo(2, 1, 0, 1), regs: "5 1000", want: "fault"},
		{x: conTo(2, 1, 0, 1), regs: "5 1000^1000", h: heap(keep(2)), want: "fault"},
		{x: conTo(2, 1, 0, 1), regs: "5 1000 0 1001*1", h: heap(free(), nil1), want: "fault"},
		{x: conTo(3, 2, 0, 1), regs: "1000*1 1001", h: heap(nil1), want: "fault"},
		// Types do not matter.
		{x: conTo(2, 1, 1, 0), regs: "5 1000*1", h: heap(nil1), want: "running 3@2[5 1000 1001*1] {1:0() 1:1(1000 5)}"},
	})
}

func TestStepsThatMakeCellsInFreePlaces(t *testing.T) {
	checkSteppings(t, []stepping{
		{x: conTo(1, 0), regs: "1001*1", h: heap(free(), nil1), want: "running 3@2[1001*1 1000*1] {1:0() 1:0()}"},
		{x: conTo(0, 0), regs: "0 1000*1 1003*1", h: heap(nil1, free(), free(), nil1), want: "running 3@2[1001*1 1000*1 1003*1] {1:0() 1:0() free 1:0()}"},
		{x: conTo(0, 0), regs: "0^1000", h: heap(keep(0)), want: "running 3@2[1001*1^1000] {kept0 1:0()}"},
		{x: conTo(0, 0), regs: "0^1002 1001*1", h: heap(free(), nil1, keep(0)), want: "running 3@2[1000*1^1002 1001*1] {1:0() 1:0() kept0}"},
		// Counts do not change, whatever they are.
		{x: conTo(2, 2, 0, 0), regs: "1000*999999", h: heap(live(999999, 0)), want: "running 3@2[1000*999997 0 1001*1] {999999:0() 1:2(1000 1000)}"},
		// Closures.
		{x: closeTo(1, 2), regs: "", want: "running 3@2[0 1000*1] {1:9()}"},
		{x: closeTo(1, 3, 0), regs: "5", want: "running 3@2[5 1000*1] {1:10(5)}"},
		{x: closeTo(1, 3, 0), regs: "1000*1", h: heap(nil1), want: "running 3@2[1000 1001*1] {1:0() 1:10(1000)}"},
		{x: closeTo(0, 3, 0), regs: "1001*1", h: heap(free(), nil1), want: "running 3@2[1000*1] {1:10(1001) 1:0()}"},
		{x: closeTo(1, 3, 0), regs: "5^1000", h: heap(keep(1)), want: "running 3@2[5^1000 1001*1] {kept1 1:10(5)}"},
		{x: closeTo(1, 3, 0), regs: "1000", want: "fault"},
		{x: closeTo(1, 3, 0), regs: "1000 0 1000*1", h: heap(nil1), want: "fault"},
		{x: closeTo(0, 3, 0), regs: "1000*2", h: heap(live(2, 0)), want: "fault"},
	})
}

func TestStepsThatUseKeptCells(t *testing.T) {
	cons := conTo(2, 1, 0, 1)
	checkSteppings(t, []stepping{
		{x: intoOf(0, cons), regs: "5^1001 1000*1", h: heap(nil1, keep(2)), want: "running 3@2[5 1000 1001*1] {1:0() 1:1(5 1000)}"},
		{x: intoOf(2, cons), regs: "5 1001*1 0^1000", h: heap(keep(2), nil1), want: "running 3@2[5 1001 1000*1] {1:1(5 1001) 1:0()}"},
		{x: intoOf(5, cons), regs: "5 6 0 0 0 0^1000", h: heap(keep(2)), want: "running 3@2[5 6 1000*1] {1:1(5 6)}"},
		{x: intoOf(1, cons), regs: "5 1000*1^1001", h: heap(nil1, keep(2)), want: "running 3@2[5 1000 1001*1] {1:0() 1:1(5 1000)}"},
		// A kept cell comes before a free one.
		{x: intoOf(0, conTo(1, 0)), regs: "0^1001", h: heap(free(), keep(0)), want: "running 3@2[0 1001*1] {free 1:0()}"},
		{x: intoOf(0, conTo(0, 0)), regs: "0^1000", h: heap(keep(0)), want: "running 3@2[1000*1] {1:0()}"},
		// With no kept cell at hand it is as if Into were 0.
		{x: intoOf(0, cons), regs: "5 6", want: "running 3@2[5 6 1000*1] {1:1(5 6)}"},
		{x: intoOf(0, cons), regs: "5 6^1000", h: heap(keep(2)), want: "running 3@2[5 6^1000 1001*1] {kept2 1:1(5 6)}"},
		{x: cons, regs: "5^1000 6", h: heap(keep(2)), want: "running 3@2[5^1000 6 1001*1] {kept2 1:1(5 6)}"},
		{x: intoOf(1, cons), regs: "5^1001 6 1000^1002", h: heap(free(), keep(2), keep(2)), want: "running 3@2[5^1001 6 1000*1^1002] {1:1(5 6) kept2 kept2}"},
		{x: intoOf(2, cons), regs: "5^1001 6 1000^1002", h: heap(free(), keep(2), keep(2)), want: "running 3@2[5^1001 6 1002*1] {free kept2 1:1(5 6)}"},
		// Kept cells with another number of fields.
		{x: intoOf(0, cons), regs: "5^1000 6", h: heap(keep(1)), want: "fault"},
		{x: intoOf(0, cons), regs: "5^1000 6", h: heap(keep(3)), want: "fault"},
		{x: intoOf(0, cons), regs: "5^1000 6", h: heap(keep(0)), want: "fault"},
		{x: intoOf(0, conTo(1, 0)), regs: "5^1000 6", h: heap(keep(1)), want: "fault"},
		{x: intoOf(1, cons), regs: "5^1000 6", h: heap(keep(3)), want: "running 3@2[5^1000 6 1001*1] {kept3 1:1(5 6)}"},
		{x: intoOf(0, conTo(1, 3, 0, 0, 0)), regs: "1001*3^1000", h: heap(keep(3), live(3, 0)), want: "running 3@2[1001 1000*1] {1:3(1001 1001 1001) 3:0()}"},
		{x: intoOf(0, conTo(1, 3, 0, 0, 0)), regs: "1001*3^1000", h: heap(keep(2), live(3, 0)), want: "fault"},
		// A kept cell at hand is no help where something else is missing.
		{x: intoOf(0, cons), regs: "5^1001 1000 0 1000*1", h: heap(nil1, keep(2)), want: "fault"},
		{x: intoOf(0, cons), regs: "5^1001 6 1000*1", h: heap(nil1, keep(2)), want: "fault"},
	})
}

func TestStepsThatCount(t *testing.T) {
	d, g := in(impl.OpDup, 0, 0), in(impl.OpDrop, 0, 0)
	checkSteppings(t, []stepping{
		{x: d, regs: "1000*1", h: heap(nil1), want: "running 3@2[1000*2] {2:0()}"},
		{x: d, regs: "1000 1000*1", h: heap(nil1), want: "running 3@2[1000*1 1000*1] {2:0()}"},
		{x: d, regs: "1000 1001*1", h: heap(nil1, live(1, 1, 5, 1000)), want: "running 3@2[1000*1 1001*1] {2:0() 1:1(5 1000)}"},
		{x: d, regs: "1000*1^1001", h: heap(live(1, 77, 8, 9), keep(1)), want: "running 3@2[1000*2^1001] {2:77(8 9) kept1}"},
		{x: d, regs: "5", want: "fault"},
		{x: d, regs: "", want: "fault"},
		{x: d, regs: "1000", want: "fault"},
		{x: d, regs: "1000 1001*1", h: heap(free(), nil1), want: "fault"},
		{x: d, regs: "1000^1000", h: heap(keep(2)), want: "fault"},
		{x: d, regs: "9223372036854775807", want: "fault"},
		{x: d, regs: "1000*999998", h: heap(live(999998, 0)), want: "running 3@2[1000*999999] {999999:0()}"},
		{x: d, regs: "1000*999999", h: heap(live(999999, 0)), want: "fault"},
		{x: d, regs: "1000 1000*999999", h: heap(live(999999, 0)), want: "fault"},
		{x: d, regs: "1000 1001*1", h: heap(live(999999, 0), live(1, 1, 1000)), outer: "7 1000*999998", want: "fault"},
		{x: d, regs: "1000 1001*1", h: heap(live(999998, 0), live(1, 1, 1000)), outer: "7 1000*999997", want: "running 3@4[7 1000*999997] 3@2[1000*1 1001*1] {999999:0() 1:1(1000)} calls1"},
		{x: g, regs: "1000*1", h: heap(nil1), want: "running 3@2[1000] {}"},
		{x: g, regs: "1000*2", h: heap(live(2, 0)), want: "running 3@2[1000*1] {1:0()}"},
		{x: g, regs: "1000*1 1000*1", h: heap(live(2, 0)), want: "running 3@2[1000 1000*1] {1:0()}"},
		{x: g, regs: "1000*1 1001*1", h: heap(nil1, nil1), want: "running 3@2[1000 1001*1] {free 1:0()}"},
		{x: g, regs: "1001*1 1000", h: heap(nil1, live(1, 1, 5, 1000)), want: "running 3@2[1001 1000] {}"},
		{x: g, regs: "1001*1 1000*1", h: heap(live(2, 0), live(1, 1, 5, 1000)), want: "running 3@2[1001 1000*1] {1:0()}"},
		{x: g, regs: "1000*1", h: heap(live(1, 2, 1001, 1001), live(2, 1, 7, 1002), nil1), want: "running 3@2[1000] {}"},
		{x: g, regs: "1000*1^1003", h: heap(live(1, 2, 1001, 1002), nil1, nil1, keep(3)), want: "running 3@2[1000^1003] {free free free kept3}"},
		{x: g, regs: "1001*1 0 1000*1", h: heap(live(2, 0), live(1, 10, 1000)), want: "running 3@2[1001 0 1000*1] {1:0()}"},
		{x: g, regs: "1000*999999", h: heap(live(999999, 0)), want: "running 3@2[1000*999998] {999998:0()}"},
		{x: g, regs: "5", want: "fault"},
		{x: g, regs: "", want: "fault"},
		{x: g, regs: "1000", want: "fault"},
		{x: g, regs: "1000 1000*1", h: heap(nil1), want: "fault"},
		{x: g, regs: "1000^1000", h: heap(keep(2)), want: "fault"},
		{x: g, regs: "1000 1001*1", h: heap(nil1, live(1, 1, 5, 1000)), want: "fault"},
	})
}

func TestStepsThatTakeApart(t *testing.T) {
	cons := live(1, 1, 5, 1000)
	rules := []stepping{
		// A cell that is counted once, at the end of the heap and in its middle.
		{x: in(impl.OpOpen, 0, 0, 1), regs: "1001*1 1000", h: heap(nil1, cons), want: "running 3@2[1001 1000*1] {1:0()}"},
		{x: in(impl.OpOpen, 0, 0, 1), regs: "1000*1 1001", h: heap(live(1, 1, 5, 1001), nil1), want: "running 3@2[1000 1001*1] {free 1:0()}"},
		{x: in(impl.OpOpen, 0, 0), regs: "1002*1 1000*1", h: heap(nil1, free(), live(1, 1, 5, 6)), want: "running 3@2[1002 1000*1] {1:0()}"},
		{x: in(impl.OpOpen, 0, 0), regs: "1000*1", h: heap(nil1), want: "running 3@2[1000] {}"},
		{x: in(impl.OpReuse, 0, 0, 1), regs: "1001*1 1000", h: heap(nil1, cons), want: "running 3@2[1001^1001 1000*1] {1:0() kept2}"},
		{x: in(impl.OpReuse, 0, 0, 1), regs: "1000*1 1001", h: heap(live(1, 1, 5, 1001), nil1), want: "running 3@2[1000^1000 1001*1] {kept2 1:0()}"},
		{x: in(impl.OpReuse, 0, 0), regs: "1000*1", h: heap(nil1), want: "running 3@2[1000^1000] {kept0}"},
		{x: in(impl.OpReuse, 0, 0), regs: "1000*1", h: heap(live(1, 3, 1, 2, 3)), want: "running 3@2[1000^1000] {kept3}"},
		// Only the register itself must not hold anything, and only for OpReuse.
		{x: in(impl.OpOpen, 0, 0, 1), regs: "1001*1^1002 1000", h: heap(nil1, cons, keep(2)), want: "running 3@2[1001^1002 1000*1] {1:0() free kept2}"},
		{x: in(impl.OpReuse, 0, 0, 1), regs: "1001*1^1002 1000", h: heap(nil1, cons, keep(2)), want: "fault"},
		{x: in(impl.OpReuse, 0, 0, 1), regs: "1001*2^1002 1000", h: heap(nil1, live(2, 1, 5, 1000), keep(2)), want: "fault"},
		{x: in(impl.OpReuse, 0, 0, 1), regs: "1001*1 1000^1002", h: heap(nil1, cons, keep(2)), want: "running 3@2[1001^1001 1000*1^1002] {1:0() kept2 kept2}"},
		// A shared cell, which OpReuse does not keep.
		{x: in(impl.OpReuse, 0, 0, 1), regs: "1001*2 1000", h: heap(nil1, live(2, 1, 5, 1000)), want: "running 3@2[1001*1 1000*1] {2:0() 1:1(5 1000)}"},
		{x: in(impl.OpReuse, 0, 0), regs: "1000*1 1000*1", h: heap(live(2, 0)), want: "running 3@2[1000 1000*1] {1:0()}"},
	}
	// What holds of both.
	for _, op := range []int{impl.OpOpen, impl.OpReuse} {
		apart := func(args ...int) impl.Instr { return in(op, 0, args...) }
		rules = append(rules,
			stepping{x: apart(0, 1), regs: "1001*2 1000", h: heap(nil1, live(2, 1, 5, 1000)), want: "running 3@2[1001*1 1000*1] {2:0() 1:1(5 1000)}"},
			stepping{x: apart(0, 1), regs: "1001*1 1000*1 1001*1", h: heap(live(2, 0), live(2, 1, 5, 1000)), want: "running 3@2[1001 1000*2 1001*1] {3:0() 1:1(5 1000)}"},
			stepping{x: apart(0, 1, 1), regs: "1001*2 1000", h: heap(live(2, 0), live(2, 2, 1000, 1000)), want: "running 3@2[1001*1 1000*2] {4:0() 1:2(1000 1000)}"},
			stepping{x: apart(0, 1, 2), regs: "1001*2 1000 1000", h: heap(live(2, 0), live(2, 2, 1000, 1000)), want: "running 3@2[1001*1 1000*1 1000*1] {4:0() 1:2(1000 1000)}"},
			stepping{x: apart(0, 1, 2, 3), regs: "1003*2 1002 1001 1000", h: heap(nil1, nil1, nil1, live(2, 3, 1002, 1001, 1000)), want: "running 3@2[1003*1 1002*1 1001*1 1000*1] {2:0() 2:0() 2:0() 1:3(1002 1001 1000)}"},
			// The pointers among the fields are the words of the further arguments, in order.
			stepping{x: apart(0), regs: "1001*1 1000", h: heap(nil1, cons), want: "fault"},
			stepping{x: apart(0, 1, 1), regs: "1001*1 1000", h: heap(nil1, cons), want: "fault"},
			stepping{x: apart(0, 1, 2), regs: "1001*1 5 1000", h: heap(nil1, cons), want: "fault"},
			stepping{x: apart(0, 1), regs: "1001*1 5", h: heap(nil1, cons), want: "fault"},
			stepping{x: apart(0, 1), regs: "1001*1 1002*1", h: heap(nil1, cons, nil1), want: "fault"},
			stepping{x: apart(0, 0), regs: "1001*1 1000", h: heap(nil1, cons), want: "fault"},
			stepping{x: apart(0, 1), regs: "1000*1 5", h: heap(live(1, 1, 5, 6)), want: "fault"},
			stepping{x: apart(0, 1, 2), regs: "1002*1 1001 1000", h: heap(nil1, nil1, live(1, 2, 1000, 1001)), want: "fault"},
			stepping{x: apart(0, 2, 1), regs: "1002*2 1001 1000", h: heap(nil1, nil1, live(2, 2, 1000, 1001)), want: "running 3@2[1002*1 1001*1 1000*1] {2:0() 2:0() 1:2(1000 1001)}"},
			// Only what is owned can be taken apart.
			stepping{x: apart(0, 1), regs: "1001 1000 0 1001*1", h: heap(nil1, cons), want: "fault"},
			stepping{x: apart(0), regs: "1000", want: "fault"},
			stepping{x: apart(0), regs: "5", want: "fault"},
			stepping{x: apart(0), regs: "1000 1001*1", h: heap(free(), nil1), want: "fault"},
			stepping{x: apart(0), regs: "1000^1000", h: heap(keep(0)), want: "fault"},
			// Counts at their limit, which matter only for a shared cell.
			stepping{x: apart(0, 1), regs: "1001*2 1000*999998", h: heap(live(999999, 0), live(2, 1, 5, 1000)), want: "fault"},
			stepping{x: apart(0, 1), regs: "1001*2 1000*999997", h: heap(live(999998, 0), live(2, 1, 5, 1000)), want: "running 3@2[1001*1 1000*999998] {999999:0() 1:1(5 1000)}"},
			stepping{x: apart(0, 1, 1), regs: "1001*2 1000*999996", h: heap(live(999998, 0), live(2, 2, 1000, 1000)), want: "fault"},
			stepping{x: apart(0, 1, 1), regs: "1001*2 1000*999995", h: heap(live(999997, 0), live(2, 2, 1000, 1000)), want: "running 3@2[1001*1 1000*999997] {999999:0() 1:2(1000 1000)}"},
			stepping{x: apart(0, 1, 2), regs: "1002*2 1000 1001*999998", h: heap(nil1, live(999999, 0), live(2, 2, 1000, 1001)), want: "fault"},
			stepping{x: apart(0), regs: "1000*999999", h: heap(live(999999, 0)), want: "running 3@2[1000*999998] {999998:0()}"},
		)
	}
	rules = append(rules,
		stepping{x: in(impl.OpOpen, 0, 0, 1), regs: "1001*1 1000*999998", h: heap(live(999999, 0), cons), want: "running 3@2[1001 1000*999999] {999999:0()}"},
		stepping{x: in(impl.OpReuse, 0, 0, 1), regs: "1001*1 1000*999998", h: heap(live(999999, 0), cons), want: "running 3@2[1001^1001 1000*999999] {999999:0() kept2}"},
		stepping{x: in(impl.OpOpen, 0, 0, 1), regs: "1001*1 1000", h: heap(nil1, live(1, 99, 1000)), want: "running 3@2[1001 1000*1] {1:0()}"},
		stepping{x: in(impl.OpOpen, 0, 0, 1, 1), regs: "1001*1 1000", h: heap(live(2, 0), live(1, 2, 1000, 1000)), want: "running 3@2[1001 1000*2] {2:0()}"},
	)
	checkSteppings(t, rules)
}

func TestStepsThatMoveAndLoad(t *testing.T) {
	two, cons := live(2, 0), live(1, 1, 5, 1000)
	checkSteppings(t, []stepping{
		{x: move(1, 0), regs: "5 7", want: "running 3@2[5 5] {}"},
		{x: move(0, 0), regs: "5 7", want: "running 3@2[5 7] {}"},
		{x: move(1, 0), regs: "0 1000", want: "running 3@2[] {}"},
		{x: move(1, 0), regs: "1000*1", h: heap(nil1), want: "running 3@2[1000 1000*1] {1:0()}"},
		{x: move(1, 0), regs: "1000*2", h: heap(two), want: "running 3@2[1000*1 1000*1] {2:0()}"},
		{x: move(1, 0), regs: "1000*1^1001 7", h: heap(nil1, keep(0)), want: "running 3@2[1000^1001 1000*1] {1:0() kept0}"},
		{x: move(0, 0), regs: "1000*1", h: heap(nil1), want: "running 3@2[1000*1] {1:0()}"},
		{x: move(0, 0), regs: "1000*2", h: heap(two), want: "fault"},
		{x: move(1, 0), regs: "1000*1 1000*1", h: heap(two), want: "fault"},
		{x: move(1, 0), regs: "1000 0 1000*1", h: heap(nil1), want: "fault"},
		{x: move(1, 0), regs: "1000", want: "fault"},
		{x: move(0, 0), regs: "1000", want: "fault"},
		{x: move(1, 0), regs: "1000*999999", h: heap(live(999999, 0)), want: "running 3@2[1000*999998 1000*1] {999999:0()}"},
		{x: load(1, 0, 0), regs: "1001*1", h: heap(nil1, cons), want: "running 3@2[1001*1 5] {1:0() 1:1(5 1000)}"},
		{x: load(1, 1, 0), regs: "1001*1", h: heap(nil1, cons), want: "running 3@2[1001*1 1000] {1:0() 1:1(5 1000)}"},
		{x: load(1, 2, 0), regs: "1001*1", h: heap(nil1, cons), want: "fault"},
		{x: load(1, 2, 0), regs: "1000*1 9", h: heap(live(1, 3, 1, 2, 3)), want: "running 3@2[1000*1 3] {1:3(1 2 3)}"},
		{x: load(1, 0, 0), regs: "1000*1 9", h: heap(live(1, 99, -7)), want: "running 3@2[1000*1 -7] {1:99(-7)}"},
		{x: load(1, 0, 0), regs: "1000*1", h: heap(nil1), want: "fault"},
		{x: load(1, 0, 0), regs: "1001 0 1001*1", h: heap(nil1, cons), want: "running 3@2[1001 5 1001*1] {1:0() 1:1(5 1000)}"},
		{x: load(0, 1, 0), regs: "1001 0 1001*1", h: heap(nil1, cons), want: "running 3@2[1000 0 1001*1] {1:0() 1:1(5 1000)}"},
		{x: load(0, 1, 0), regs: "1001*1", h: heap(nil1, cons), want: "fault"},
		{x: load(1, 0, 0), regs: "5", want: "fault"},
		{x: load(1, 0, 0), regs: "1000", want: "fault"},
		{x: load(1, 0, 0), regs: "1000^1000", h: heap(keep(2)), want: "fault"},
		{x: load(1, 0, 0), regs: "1000 1001*1", h: heap(free(), live(1, 1, 5, 6)), want: "fault"},
	})
}

func TestStepsThatSwitch(t *testing.T) {
	pair := jumping(1, 0, 3, 4)
	triple := jumping(3, 0, 2, 5, 3)
	checkSteppings(t, []stepping{
		{x: pair, regs: "1000*1", h: heap(nil1), want: "running 3@3[1000*1] {1:0()}"},
		{x: pair, regs: "1000*1", h: heap(live(1, 1, 5, 6)), want: "running 3@4[1000*1] {1:1(5 6)}"},
		{x: pair, regs: "1000 1000*1", h: heap(live(1, 1)), want: "running 3@4[1000 1000*1] {1:1()}"},
		{x: pair, regs: "1000*1", h: heap(live(1, 2)), want: "fault"},
		{x: pair, regs: "1000*1", h: heap(live(1, 99)), want: "fault"},
		{x: pair, regs: "1000*1", h: heap(live(1, 7)), want: "fault"},
		{x: triple, regs: "1000*1", h: heap(live(1, 1)), want: "fault"},
		{x: triple, regs: "1000*1", h: heap(live(1, 2)), want: "running 3@2[1000*1] {1:2()}"},
		{x: triple, regs: "1000*1", h: heap(live(1, 3)), want: "running 3@5[1000*1] {1:3()}"},
		{x: triple, regs: "1000*1", h: heap(live(1, 4)), want: "running 3@3[1000*1] {1:4()}"},
		{x: triple, regs: "1000*1", h: heap(live(1, 5)), want: "fault"},
		{x: jumping(4, 0, 2, 3), regs: "1000*1", h: heap(live(1, 5)), want: "running 3@2[1000*1] {1:5()}"},
		{x: jumping(4, 0, 2, 3), regs: "1000*1", h: heap(live(1, 6)), want: "running 3@3[1000*1] {1:6()}"},
		{x: jumping(4, 0, 2, 3), regs: "1000*1", h: heap(live(1, 7)), want: "fault"},
		{x: pair, regs: "0", want: "fault"},
		{x: pair, regs: "1000", want: "fault"},
		{x: pair, regs: "1000^1000", h: heap(keep(0)), want: "fault"},
		{x: pair, regs: "1000 1001*1", h: heap(free(), nil1), want: "fault"},
	})
}

func TestStepsThatCall(t *testing.T) {
	two := live(2, 0)
	checkSteppings(t, []stepping{
		{x: callTo(5, 0), regs: "7", want: "running 3@2[7] 0@0>5[] {} calls1"},
		{x: callTo(0, 0), regs: "7", want: "running 3@2[7] 0@0[] {} calls1"},
		{x: callTo(5, 2, 1), regs: "7 8", want: "running 3@2[7 8] 2@0>5[8] {} calls1"},
		{x: callTo(5, 2, 0), regs: "1000*1", h: heap(nil1), want: "running 3@2[1000] 2@0>5[1000*1] {1:0()} calls1"},
		{x: callTo(5, 2, 0), regs: "1000*3", h: heap(live(3, 0)), want: "running 3@2[1000*2] 2@0>5[1000*1] {3:0()} calls1"},
		{x: callTo(5, 3, 1, 0), regs: "1000*1 1001*1", h: heap(nil1, nil1), want: "running 3@2[1000 1001] 3@0>5[1001*1 1000*1] {1:0() 1:0()} calls1"},
		// What is held stays, and a result can be returned to what is consumed, but not to what is owned.
		{x: callTo(0, 2, 0), regs: "1000*1^1001", h: heap(nil1, keep(1)), want: "running 3@2[1000^1001] 2@0[1000*1] {1:0() kept1} calls1"},
		{x: callTo(0, 2, 0), regs: "1000*2", h: heap(two), want: "fault"},
		{x: callTo(1, 2, 0), regs: "1000*1 1000*1", h: heap(two), want: "fault"},
		{x: callTo(1, 2, 0), regs: "1000*1 1000", h: heap(nil1), want: "running 3@2[1000 1000] 2@0>1[1000*1] {1:0()} calls1"},
		// The same register twice.
		{x: callTo(5, 3, 0, 0), regs: "1000*2", h: heap(two), want: "running 3@2[1000] 3@0>5[1000*1 1000*1] {2:0()} calls1"},
		{x: callTo(5, 3, 0, 0), regs: "1000*1", h: heap(nil1), want: "fault"},
		{x: callTo(5, 3, 0, 0), regs: "9", want: "running 3@2[9] 3@0>5[9 9] {} calls1"},
		// What is consumed must be owned.
		{x: callTo(5, 2, 0), regs: "1000 1000*1", h: heap(nil1), want: "fault"},
		{x: callTo(5, 2, 0), regs: "1000", want: "fault"},
		{x: callTo(5, 3, 0, 1), regs: "5 1000", want: "fault"},
		// Lent arguments, which need not be owned, but must be live.
		{x: callTo(5, 1, 0, 1), regs: "1000*1 1001*1", h: heap(nil1, nil1), want: "running 3@2[1000*1 1001] 1@0>5[1000 1001*1] {1:0() 1:0()} calls1"},
		{x: callTo(5, 1, 0, 1), regs: "1000 1001*1 1000*1", h: heap(nil1, nil1), want: "running 3@2[1000 1001 1000*1] 1@0>5[1000 1001*1] {1:0() 1:0()} calls1"},
		{x: callTo(5, 1, 0, 1), regs: "1000*1 7", h: heap(nil1), want: "running 3@2[1000*1 7] 1@0>5[1000 7] {1:0()} calls1"},
		{x: callTo(5, 1, 0, 1), regs: "7 1000*1", h: heap(nil1), want: "running 3@2[7 1000] 1@0>5[7 1000*1] {1:0()} calls1"},
		{x: callTo(5, 1, 0, 1), regs: "1000 7", want: "fault"},
		{x: callTo(5, 1, 0, 1), regs: "1000^1000 7", h: heap(keep(0)), want: "fault"},
		{x: callTo(5, 1, 0, 1), regs: "1000 1001*1", h: heap(free(), nil1), want: "fault"},
		{x: callTo(5, 1, 0, 1), regs: "1002 1001*1 1000*1", h: heap(nil1, nil1), want: "fault"},
		{x: callTo(5, 1, 0, 1), regs: "1000*1 1000", h: heap(nil1), want: "fault"},
		{x: callTo(5, 1, 0, 1), regs: "1000 1000*1", h: heap(nil1), want: "running 3@2[1000 1000] 1@0>5[1000 1000*1] {1:0()} calls1"},
		{x: callTo(5, 1, 0, 0), regs: "1000*1", h: heap(nil1), want: "running 3@2[1000] 1@0>5[1000 1000*1] {1:0()} calls1"},
		{x: callTo(5, 1, 0, 0), regs: "1000*2", h: heap(two), want: "running 3@2[1000*1] 1@0>5[1000 1000*1] {2:0()} calls1"},
		{x: callTo(0, 1, 0, 1), regs: "1000*1 7", h: heap(nil1), want: "fault"},
		{x: callTo(0, 1, 0, 1), regs: "1000 7 1000*1", h: heap(nil1), want: "running 3@2[1000 7 1000*1] 1@0[1000 7] {1:0()} calls1"},
		// From an inner frame.
		{x: callTo(5, 2, 0), regs: "1000*1", h: heap(nil1), outer: "7 8", dst: 4, want: "running 3@4[7 8] 3@2>4[1000] 2@0>5[1000*1] {1:0()} calls2"},
	})
}

func TestStepsThatCallAtTheEnd(t *testing.T) {
	checkSteppings(t, []stepping{
		{x: tailTo(0), regs: "7", want: "running 0@0[] {} calls1"},
		{x: tailTo(2, 0), regs: "1000*1", h: heap(nil1), want: "running 2@0[1000*1] {1:0()} calls1"},
		{x: tailTo(3, 1, 0), regs: "5 1000*1 1007", h: heap(nil1), want: "running 3@0[1000*1 5] {1:0()} calls1"},
		{x: tailTo(3, 0, 0), regs: "1000*2", h: heap(live(2, 0)), want: "running 3@0[1000*1 1000*1] {2:0()} calls1"},
		{x: tailTo(3, 0, 0), regs: "1000*1", h: heap(nil1), want: "fault"},
		{x: tailTo(2, 0), regs: "1000", want: "fault"},
		{x: tailTo(2, 0), regs: "1000*1", h: heap(nil1), outer: "7 8", dst: 4, want: "running 3@4[7 8] 2@0>4[1000*1] {1:0()} calls2"},
		// Nothing may be left.
		{x: tailTo(2, 0), regs: "1000*2", h: heap(live(2, 0)), want: "fault"},
		{x: tailTo(2, 0), regs: "1000*1 1001*1", h: heap(nil1, nil1), want: "fault"},
		{x: tailTo(2, 0), regs: "1000*1 0 0 0 0 1001*1", h: heap(nil1, nil1), want: "fault"},
		{x: tailTo(2, 0), regs: "5 1000*1", h: heap(nil1), want: "fault"},
		{x: tailTo(2, 0), regs: "5^1000", h: heap(keep(2)), want: "fault"},
		{x: tailTo(0), regs: "5 0 0 0 0 0^1000", h: heap(keep(0)), want: "fault"},
		{x: tailTo(2, 0), regs: "1000*1", h: heap(nil1, nil1, keep(1)), outer: "1001*1^1002", dst: 4, want: "running 3@4[1001*1^1002] 2@0>4[1000*1] {1:0() 1:0() kept1} calls2"},
		// Lent arguments are owned by outer frames, or are integers.
		{x: tailTo(1, 0, 1), regs: "7 8", want: "running 1@0[7 8] {} calls1"},
		{x: tailTo(1, 0, 1), regs: "7 1000*1", h: heap(nil1), want: "running 1@0[7 1000*1] {1:0()} calls1"},
		{x: tailTo(1, 0, 1), regs: "1000*1 7", h: heap(nil1), want: "fault"},
		{x: tailTo(1, 0, 1), regs: "1000 7", want: "fault"},
		{x: tailTo(1, 0, 0), regs: "1000*1", h: heap(nil1), want: "running 1@0[1000 1000*1] {1:0()} calls1"},
		{x: tailTo(1, 0, 1), regs: "1000 1001*1", h: heap(nil1, nil1), outer: "1000*1", dst: 4, want: "running 3@4[1000*1] 1@0>4[1000 1001*1] {1:0() 1:0()} calls2"},
		{x: tailTo(1, 0, 1), regs: "1000 1001*1", h: heap(nil1, live(1, 1, 5, 1000)), want: "running 1@0[1000 1001*1] {1:0() 1:1(5 1000)} calls1"},
		{x: tailTo(1, 0, 1), regs: "1000 1001*1", h: heap(keep(1), nil1), outer: "5^1000", dst: 4, want: "fault"},
		{x: tailTo(1, 0, 1), regs: "1000*1 1001*1", h: heap(live(2, 0), nil1), outer: "1000*1", dst: 4, want: "fault"},
	})
}

func TestStepsThatApply(t *testing.T) {
	x := to(4, impl.OpApply, 0, 0, 1)
	self := to(4, impl.OpApply, 0, 0, 0)
	checkSteppings(t, []stepping{
		// Closures that are not shared.
		{x: x, regs: "1000*1 5", h: heap(live(1, 9)), want: "running 3@2[1000 5] 2@0>4[5] {} calls1"},
		{x: x, regs: "1000*1 5", h: heap(live(1, 10, -3)), want: "running 3@2[1000 5] 3@0>4[-3 5] {} calls1"},
		{x: x, regs: "1001*1 1002*1", h: heap(nil1, live(1, 10, 1000), nil1), want: "running 3@2[1001 1002] 3@0>4[1000*1 1002*1] {1:0() free 1:0()} calls1"},
		{x: x, regs: "1002*1 1000*1", h: heap(nil1, nil1, live(1, 10, 1001)), want: "running 3@2[1002 1000] 3@0>4[1001*1 1000*1] {1:0() 1:0()} calls1"},
		{x: x, regs: "1001*1 1000*1", h: heap(live(2, 0), live(1, 10, 1000)), want: "running 3@2[1001 1000] 3@0>4[1000*1 1000*1] {2:0()} calls1"},
		// Closures that are shared.
		{x: x, regs: "1000*2 5", h: heap(live(2, 9)), want: "running 3@2[1000*1 5] 2@0>4[5] {1:9()} calls1"},
		{x: x, regs: "1001*1 5 1001*1", h: heap(nil1, live(2, 10, 1000)), want: "running 3@2[1001 5 1001*1] 3@0>4[1000*1 5] {2:0() 1:10(1000)} calls1"},
		{x: x, regs: "1001*2 1000*1", h: heap(live(2, 0), live(2, 10, 1000)), want: "running 3@2[1001*1 1000] 3@0>4[1000*1 1000*1] {3:0() 1:10(1000)} calls1"},
		{x: self, regs: "1000*2", h: heap(live(2, 9)), want: "running 3@2[1000] 2@0>4[1000*1] {1:9()} calls1"},
		{x: self, regs: "1000*1", h: heap(live(1, 9)), want: "fault"},
		{x: to(0, impl.OpApply, 0, 0, 0), regs: "1000*2", h: heap(live(2, 9)), want: "running 3@2[1000] 2@0[1000*1] {1:9()} calls1"},
		{x: to(0, impl.OpApply, 0, 0, 1), regs: "1000*2 5", h: heap(live(2, 9)), want: "fault"},
		{x: to(1, impl.OpApply, 0, 0, 1), regs: "1000*1 1001*1", h: heap(live(1, 9), nil1), want: "running 3@2[1000 1001] 2@0>1[1001*1] {free 1:0()} calls1"},
		// What is no closure, or one of a procedure with Lent or with other parameters.
		{x: x, regs: "1000*1 5", h: heap(live(1, 7)), want: "fault"},
		{x: x, regs: "1000*1 5", h: heap(live(1, 8, 6)), want: "fault"},
		{x: x, regs: "1000*1 5", h: heap(live(1, 8)), want: "fault"},
		{x: x, regs: "1000*1 5", h: heap(live(1, 9, 6)), want: "fault"},
		{x: x, regs: "1000*1 5", h: heap(live(1, 10)), want: "fault"},
		{x: x, regs: "1000*1 5", h: heap(live(1, 10, 6, 6)), want: "fault"},
		{x: x, regs: "1000*1 5", h: heap(live(1, 11)), want: "fault"},
		{x: x, regs: "1000*1 5", h: heap(live(1, 99)), want: "fault"},
		{x: x, regs: "1000*1 5", h: heap(live(1, 6, 6)), want: "fault"},
		{x: x, regs: "1000*1 5", h: heap(live(1, 2)), want: "fault"},
		{x: x, regs: "1000*1 5", h: heap(live(1, 0)), want: "fault"},
		{x: x, regs: "9 5", want: "fault"},
		{x: x, regs: "1000 5", want: "fault"},
		{x: x, regs: "1000^1000 5", h: heap(keep(0)), want: "fault"},
		// What is consumed must be owned.
		{x: x, regs: "1000 5 1000*1", h: heap(live(1, 9)), want: "fault"},
		{x: x, regs: "1000*1 1001 1001*1", h: heap(live(1, 9), nil1), want: "fault"},
		{x: x, regs: "1000*1 1001", h: heap(live(1, 9)), want: "fault"},
		// Counts at their limit, which matter only for a shared closure.
		{x: x, regs: "1001*2 5 1000*999998", h: heap(live(999999, 0), live(2, 10, 1000)), want: "fault"},
		{x: x, regs: "1001*2 5 1000*999997", h: heap(live(999998, 0), live(2, 10, 1000)), want: "running 3@2[1001*1 5 1000*999997] 3@0>4[1000*1 5] {999999:0() 1:10(1000)} calls1"},
		{x: x, regs: "1001*1 5 1000*999998", h: heap(live(999999, 0), live(1, 10, 1000)), want: "running 3@2[1001 5 1000*999998] 3@0>4[1000*1 5] {999999:0()} calls1"},
		{x: x, regs: "1000*1 5 7^1001", h: heap(live(1, 9), keep(3)), want: "running 3@2[1000 5 7^1001] 2@0>4[5] {free kept3} calls1"},
	})
}

func TestStepsThatReturn(t *testing.T) {
	checkSteppings(t, []stepping{
		// The last result is an integer.
		{x: back(0), regs: "7", want: "done {} value7"},
		{x: back(5), regs: "7 8 1000", want: "done {}"},
		{x: back(0), regs: "-999 4611686018427387904", want: "done {} value-999"},
		{x: back(0), regs: "1000*1", h: heap(nil1), want: "fault"},
		{x: back(0), regs: "1000", want: "fault"},
		{x: back(0), regs: "7 1000*1", h: heap(nil1), want: "fault"},
		{x: back(0), regs: "7 0 0 0 0 1000*1", h: heap(nil1), want: "fault"},
		{x: back(0), regs: "7^1000", h: heap(keep(0)), want: "fault"},
		{x: back(0), regs: "7 0 0 0 0 0^1000", h: heap(keep(0)), want: "fault"},
		// A result for an outer frame, which goes on where it was.
		{x: back(0), regs: "7", outer: "1 2 3", want: "running 3@4[7 2 3] {} calls1"},
		{x: back(0), regs: "7", outer: "1 2 3", dst: 4, want: "running 3@4[1 2 3 0 7] {} calls1"},
		{x: back(1), regs: "7 1000*1", h: heap(nil1), outer: "1 2 3", dst: 2, want: "running 3@4[1 2 1000*1] {1:0()} calls1"},
		{x: back(0), regs: "1000*1", h: heap(nil1), outer: "1000", want: "running 3@4[1000*1] {1:0()} calls1"},
		{x: back(0), regs: "1000*1", h: heap(live(2, 0)), outer: "0 1000*1", want: "running 3@4[1000*1 1000*1] {2:0()} calls1"},
		{x: back(0), regs: "7", h: heap(nil1, keep(1)), outer: "5^1001 1000*1", want: "running 3@4[7^1001 1000*1] {1:0() kept1} calls1"},
		{x: back(0), regs: "1000*2", h: heap(live(2, 0)), outer: "1", want: "fault"},
		{x: back(0), regs: "1000*1 1000*1", h: heap(live(2, 0)), outer: "1", want: "fault"},
		{x: back(0), regs: "1000", h: heap(nil1), outer: "0 1000*1", want: "fault"},
		{x: back(0), regs: "1000", outer: "1", want: "fault"},
		{x: back(0), regs: "1000*1 0^1001", h: heap(nil1, keep(2)), outer: "1", want: "fault"},
	})
}

// Calls at just as many calls as there may be, and at one more, also where they could not be executed.
func TestStepsThatCallTooOften(t *testing.T) {
	for _, x := range []impl.Instr{callTo(5, 2, 0), tailTo(2, 0), to(5, impl.OpApply, 0, 0, 1), callTo(1, 2, 0), tailTo(3, 0, 1), to(1, impl.OpApply, 0, 1, 0)} {
		for _, regs := range []string{"1000*1", "1000 1000*1", "1000*1 1000*1 5", "7"} {
			var h []impl.Cell
			if regs != "7" {
				h = heap(live(1, 9))
			}
			if regs == "1000*1 1000*1 5" {
				h[0].Count = 2
			}
			for _, most := range []int{0, 1, 39, 40} {
				for calls := max(0, most-1); calls <= most; calls++ {
					im, s := amongOthers(x), stepping{x: x, regs: regs, h: h}.stateFor()
					s.Calls, s.Most, s.Out = calls, most, []int{4}
					out, ok := impl.StepState(im, s)
					if !ok || text(out) != text(stepMeaning(im, s)) {
						t.Errorf("StepState of %s at %s = %s", showInstr(x), showState(s), showState(out))
					}
					if s.Status = impl.Spent; (calls == most) != (text(out) == text(s)) {
						t.Errorf("StepState of %s with %d of %d calls = %s", showInstr(x), calls, most, showState(out))
					}
				}
			}
		}
	}
}
