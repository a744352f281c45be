package tests

import (
	"testing"

	"loop.example/refcountml/impl"
)

// proving is code of a procedure with some parameters, of which some are lent, and a result, and whether it is verified.
type proving struct {
	params []int
	lent   []int
	result int
	code   []impl.Instr
	ok     bool
}

// image returns the image of such code, which is that of the procedure 3 (imageOf).
func (c proving) image() impl.Image {
	out := imageOf(c.code...)
	out.Procs[3].Params, out.Procs[3].Lent, out.Procs[3].Result = c.params, c.lent, c.result
	return out
}

// good and bad return code that is verified, and code that is not.
func good(params []int, lent []int, result int, code ...impl.Instr) proving {
	return proving{params, lent, result, code, true}
}
func bad(params []int, lent []int, result int, code ...impl.Instr) proving {
	return proving{params, lent, result, code, false}
}

// dupOf, dropOf, openOf and reuseOf are instructions that count.
func dupOf(r int) impl.Instr          { return in(impl.OpDup, 0, r) }
func dropOf(r int) impl.Instr         { return in(impl.OpDrop, 0, r) }
func openOf(regs ...int) impl.Instr   { return in(impl.OpOpen, 0, regs...) }
func reuseOf(regs ...int) impl.Instr  { return in(impl.OpReuse, 0, regs...) }
func intTo(dst int, n int) impl.Instr { return to(dst, impl.OpInt, n) }
func applyTo(d, a, b int) impl.Instr  { return to(d, impl.OpApply, 0, a, b) }
func addTo(d, a, b int) impl.Instr    { return to(d, impl.OpAdd, 0, a, b) }

// all returns all parts of some code.
func all(parts ...[]impl.Instr) []impl.Instr {
	var out []impl.Instr
	for _, part := range parts {
		out = append(out, part...)
	}
	return out
}

// consumptions returns code that shows what instructions ask their arguments for, and what is owned after them.
func consumptions() []proving {
	list, two, number, arrow := []int{1}, []int{1, 1}, []int{0}, []int{2}
	first := []int{0}
	out := []proving{
		// What is returned has the type of the result, and is owned, and nothing else is.
		good(list, nil, 1, back(0)), bad(list, first, 1, back(0)), bad(list, nil, 0, back(0)), bad(list, nil, 2, back(0)), bad(arrow, nil, 1, back(0)), good(arrow, nil, 2, back(0)), good(number, nil, 0, back(0)), bad(number, nil, 1, back(0)), bad(nil, nil, 0, back(0)), bad(nil, nil, 1, back(0)), bad(list, nil, 1, back(5)),
		bad(two, nil, 1, back(0)), bad(two, nil, 1, back(1)), good(two, nil, 1, dropOf(1), back(0)), good(two, nil, 1, dropOf(0), back(1)), good(two, first, 1, back(1)), bad(two, first, 1, back(0)), bad(two, []int{0, 1}, 1, back(1)), good([]int{1, 0}, first, 0, back(1)), bad([]int{1, 0}, nil, 0, back(1)),
		// OpDup needs a register that is alive, and OpDrop one that is owned, both a known type other than 0.
		good(list, first, 1, dupOf(0), back(0)), bad(list, nil, 1, dupOf(0), back(0)), good(list, nil, 1, dupOf(0), dropOf(0), back(0)), good(list, nil, 1, dupOf(0), dupOf(0), dropOf(0), dropOf(0), back(0)), bad(list, nil, 1, dropOf(0), dupOf(0), back(0)), bad(list, nil, 1, dropOf(0), back(0)), bad(two, nil, 1, dropOf(1), dropOf(1), back(0)), bad(two, nil, 1, dropOf(1), dupOf(1), dropOf(1), back(0)),
		bad(list, first, 1, dropOf(0), dupOf(0), back(0)), good(list, first, 1, dupOf(0), dropOf(0), dupOf(0), back(0)), bad(number, nil, 0, dupOf(0), back(0)), bad(number, nil, 0, dropOf(0), back(0)), bad(number, nil, 0, dupOf(1), back(0)), bad(number, nil, 0, dropOf(1), back(0)), good(arrow, first, 2, dupOf(0), back(0)), good([]int{3, 0}, nil, 0, dropOf(0), back(1)),
		// Operations on integers, which own nothing.
		good(nil, nil, 0, intTo(3, 5), back(3)), bad(nil, nil, 0, intTo(3, 5), back(2)), bad(list, nil, 0, intTo(0, 5), back(0)), good(list, first, 0, intTo(0, 5), back(0)), good(list, nil, 0, dropOf(0), intTo(0, 5), back(0)), bad(list, nil, 1, intTo(1, 5), back(1)), good(number, nil, 0, printTo(0, 0), back(0)), bad(list, first, 0, printTo(1, 0), back(1)), bad(nil, nil, 0, printTo(1, 0), back(1)),
		good(number, nil, 0, branch(1, 0), back(0)), bad(list, first, 1, branch(1, 0), dupOf(0), back(0)), bad(number, nil, 0, branch(1, 1), back(0)), good(number, nil, 0, jump(1), back(0)),
		// OpMove moves what is known and owned.
		good(list, nil, 1, move(4, 0), back(4)), bad(list, nil, 1, move(4, 0), back(0)), bad(list, first, 1, move(4, 0), back(4)), good(list, first, 1, dupOf(0), move(4, 0), back(4)), good(list, nil, 1, move(0, 0), back(0)), bad(list, first, 1, move(0, 0), back(0)), good(list, first, 1, dupOf(0), move(0, 0), back(0)), good(number, nil, 0, move(4, 0), back(0)), good(number, nil, 0, move(4, 0), move(0, 4), back(4)), bad(number, nil, 0, move(4, 1), back(0)), bad(two, nil, 1, move(0, 1), back(0)), good(two, first, 1, move(0, 1), back(0)), good(two, nil, 1, dropOf(0), move(0, 1), back(0)), bad(list, nil, 1, dupOf(0), move(0, 0), back(0)), bad(list, nil, 1, move(4, 0), move(5, 0), back(4)), good(arrow, nil, 2, move(5, 0), move(1, 5), back(1)),
		// After OpMove of a lent register to itself it is lent no more.
		bad(list, first, 1, dupOf(0), move(0, 0), dropOf(0), dupOf(0), back(0)), good(list, first, 1, dupOf(0), dropOf(0), dupOf(0), back(0)),
		// OpCon consumes fields, in order, each one as often as it is there.
		good(nil, nil, 1, conTo(2, 0), back(2)), good([]int{0, 1}, nil, 1, conTo(2, 1, 0, 1), back(2)), bad([]int{0, 1}, nil, 1, conTo(2, 1, 1, 0), back(2)), bad([]int{0, 1}, []int{1}, 1, conTo(2, 1, 0, 1), back(2)), good([]int{0, 1}, []int{1}, 1, dupOf(1), conTo(2, 1, 0, 1), back(2)), bad([]int{0, 2}, nil, 1, conTo(2, 1, 0, 1), back(2)), bad([]int{0, 1}, nil, 3, conTo(2, 1, 0, 1), back(2)), bad([]int{0, 1}, nil, 1, conTo(2, 1, 3, 1), back(2)), bad([]int{0, 1}, nil, 1, conTo(2, 1, 0, 3), back(2)),
		bad(list, nil, 3, conTo(1, 2, 0, 0), back(1)), good(list, nil, 3, dupOf(0), conTo(1, 2, 0, 0), back(1)), good(two, nil, 3, conTo(2, 2, 1, 0), back(2)), good(list, nil, 3, dupOf(0), dupOf(0), conTo(1, 3, 0, 0, 0), back(1)), bad(list, nil, 3, dupOf(0), conTo(1, 3, 0, 0, 0), back(1)), good([]int{0, 2}, nil, 3, conTo(2, 4, 0, 1), back(2)), good([]int{0, 1}, nil, 4, conTo(2, 6, 0, 1), back(2)), good([]int{0, 1}, nil, 4, conTo(2, 5, 1, 0), back(2)), bad([]int{0, 1}, nil, 1, conTo(2, 1, 0, 1), conTo(3, 1, 0, 1), back(3)),
		// What is set must not be owned after the consuming.
		good([]int{0, 1}, nil, 1, conTo(1, 1, 0, 1), back(1)), good([]int{0, 1}, nil, 1, conTo(0, 1, 0, 1), back(0)), bad([]int{0, 1}, nil, 1, dupOf(1), conTo(1, 1, 0, 1), back(1)), bad(list, nil, 1, conTo(0, 0), back(0)), good(list, first, 1, conTo(0, 0), back(0)), bad(list, nil, 1, conTo(1, 0), back(0)), bad(nil, nil, 1, conTo(1, 0), conTo(1, 0), back(1)), good(nil, nil, 1, conTo(1, 0), dropOf(1), conTo(1, 0), back(1)), bad(nil, nil, 0, conTo(1, 0), intTo(1, 2), back(1)),
		// OpCall consumes what is not lent, and then what is lent must be alive.
		good(list, nil, 1, callTo(3, 2, 0), back(3)), good(list, nil, 1, callTo(0, 2, 0), back(0)), bad(list, first, 1, callTo(3, 2, 0), back(3)), bad(number, nil, 1, callTo(3, 2, 0), back(3)), bad(nil, nil, 1, callTo(3, 2, 0), back(3)), bad(list, nil, 0, callTo(3, 2, 0), back(3)), good(nil, nil, 0, callTo(3, 0), back(3)), bad(nil, nil, 1, callTo(3, 0), back(3)), bad(list, nil, 1, dupOf(0), callTo(0, 2, 0), back(0)), bad(list, nil, 1, callTo(3, 2, 0), callTo(4, 2, 0), back(3)),
		good(two, nil, 1, callTo(2, 1, 0, 1), dropOf(0), back(2)), bad(two, nil, 1, callTo(2, 1, 0, 1), back(2)), bad(two, nil, 1, callTo(2, 1, 0, 1), dropOf(1), back(2)), good(two, first, 1, callTo(2, 1, 0, 1), back(2)), bad(two, []int{1}, 1, callTo(2, 1, 0, 1), dropOf(0), back(2)), bad(list, nil, 1, callTo(2, 1, 0, 0), back(2)), good(list, nil, 1, dupOf(0), callTo(2, 1, 0, 0), dropOf(0), back(2)), good(list, first, 1, dupOf(0), callTo(2, 1, 0, 0), back(2)), bad(list, first, 1, callTo(2, 1, 0, 0), back(2)), bad(two, nil, 1, dropOf(0), callTo(2, 1, 0, 1), back(2)), bad(two, nil, 1, callTo(0, 1, 0, 1), back(0)), good(two, first, 1, callTo(0, 1, 0, 1), back(0)), bad([]int{2, 1}, nil, 1, callTo(2, 1, 0, 1), dropOf(0), back(2)), bad([]int{0, 1}, nil, 1, callTo(2, 1, 0, 1), back(2)), bad(list, nil, 1, callTo(2, 1, 3, 0), back(2)),
		// OpTail as OpCall, but nothing else is owned then.
		good(list, nil, 1, tailTo(2, 0)), bad(list, first, 1, tailTo(2, 0)), bad(two, nil, 1, tailTo(2, 0)), bad(two, nil, 1, tailTo(1, 0, 1)), good(two, first, 1, tailTo(1, 0, 1)), bad(two, []int{1}, 1, tailTo(1, 0, 1)), bad(list, nil, 1, dupOf(0), tailTo(1, 0, 0)), good(list, first, 1, dupOf(0), tailTo(1, 0, 0)), good(two, nil, 1, tailTo(3, 1, 0)), bad(two, nil, 1, tailTo(3, 0, 0)), bad(nil, nil, 1, tailTo(2, 0)), bad(number, nil, 1, tailTo(2, 0)),
		// It must have the same result.
		good(nil, nil, 0, tailTo(0)), bad(nil, nil, 1, tailTo(0)), bad(list, nil, 0, tailTo(2, 0)), bad(list, nil, 2, tailTo(2, 0)), bad(list, nil, 1, tailTo(0)), bad(number, nil, 1, tailTo(0)), good(number, nil, 0, tailTo(0)),
		// OpClose and OpApply, for which there must be an arrow type.
		good(nil, nil, 2, closeTo(1, 2), back(1)), bad(nil, nil, 1, closeTo(1, 2), back(1)), bad(two, nil, 2, dropOf(1), closeTo(2, 3, 0), back(2)), good(two, nil, 1, closeTo(2, 3, 0), dropOf(2), back(1)), bad(two, nil, 1, closeTo(2, 3, 0), dropOf(2), back(0)), bad([]int{2, 1}, nil, 1, closeTo(2, 3, 1), dropOf(2), back(0)), bad(list, nil, 0, closeTo(2, 3), dropOf(2), dropOf(0), intTo(0, 1), back(0)), good([]int{2, 1}, nil, 1, applyTo(2, 0, 1), back(2)), bad([]int{2, 1}, nil, 1, applyTo(2, 1, 0), back(2)), bad([]int{2, 1}, nil, 2, applyTo(2, 0, 1), back(2)), bad([]int{2, 1}, first, 1, applyTo(2, 0, 1), back(2)), bad([]int{2, 1}, []int{1}, 1, applyTo(2, 0, 1), back(2)), bad([]int{2, 2}, nil, 1, applyTo(2, 0, 1), back(2)), bad(two, nil, 1, applyTo(2, 0, 1), back(2)), bad([]int{0, 1}, nil, 1, applyTo(2, 0, 1), back(2)), bad([]int{2, 0}, nil, 1, applyTo(2, 0, 1), back(2)), bad(arrow, nil, 1, applyTo(2, 0, 1), back(2)), bad([]int{0, 1}, nil, 1, applyTo(2, 3, 1), back(2)), good([]int{2, 1}, nil, 1, applyTo(0, 0, 1), back(0)), bad([]int{2, 1}, nil, 1, dupOf(0), applyTo(2, 0, 1), back(2)), good([]int{2, 1}, nil, 1, dupOf(0), applyTo(2, 0, 1), applyTo(3, 0, 2), back(3)), good(list, nil, 1, closeTo(1, 2), applyTo(1, 1, 0), back(1)),
	}
	for _, op := range []int{impl.OpAdd, impl.OpSub, impl.OpMul, impl.OpLess} {
		numbers := []int{0, 0}
		out = append(out, good(numbers, nil, 0, to(5, op, 0, 1, 0), back(5)), good(numbers, nil, 0, to(0, op, 0, 0, 0), back(0)), bad([]int{0, 1}, []int{1}, 0, to(5, op, 0, 0, 1), back(5)), bad([]int{1, 0}, first, 0, to(5, op, 0, 0, 1), back(5)), bad(number, nil, 0, to(5, op, 0, 0, 1), back(5)), bad(number, nil, 0, to(5, op, 0, 1, 0), back(5)), bad([]int{0, 0, 1}, nil, 0, to(2, op, 0, 0, 1), back(2)), good([]int{0, 0, 1}, []int{2}, 0, to(2, op, 0, 0, 1), back(2)))
	}
	return out
}

// listTo returns code that chooses by the list of the register 0, which is nil or a pair, and has code of its own for both, beginning with OpLoad of both fields to the registers 1 and 2 for a pair; then there is some more.
func listTo(empty []impl.Instr, pair []impl.Instr, more ...impl.Instr) []impl.Instr {
	at := 1 + len(empty)
	return all([]impl.Instr{jumping(1, 0, 1, at)}, empty, []impl.Instr{load(1, 0, 0), load(2, 1, 0)}, pair, more)
}

// pairOf returns code of a procedure with a list, owned or lent, and the result 1, which returns the list at once unless it is a pair.
func pairOf(ok bool, lent bool, pair ...impl.Instr) proving {
	c := proving{params: []int{1}, result: 1, ok: ok}
	empty := []impl.Instr{back(0)}
	if lent {
		c.lent = []int{0}
		empty = []impl.Instr{dupOf(0), back(0)}
	}
	c.code = listTo(empty, pair)
	return c
}

// matches returns code that shows what is known after OpSwitch and OpLoad, and what is asked of it.
func matches() []proving {
	list, first := []int{1}, []int{0}
	three := []int{3}
	openBoth := func(more ...impl.Instr) []impl.Instr { return append([]impl.Instr{openOf(0, 2)}, more...) }
	return []proving{
		// OpSwitch asks for its type, and for a register that is alive; OpLoad for a constructor that has the field.
		pairOf(true, false, back(0)), pairOf(false, true, back(0)), pairOf(true, true, dupOf(0), back(0)),
		bad(list, nil, 1, load(1, 0, 0), back(0)), bad(list, nil, 1, jumping(4, 0, 1, 1), back(0)), good([]int{4}, nil, 4, jumping(4, 0, 1, 1), back(0)), bad([]int{4}, nil, 4, jumping(1, 0, 1, 1), back(0)), bad([]int{0}, nil, 0, jumping(1, 0, 1, 1), back(0)), bad([]int{2}, nil, 2, jumping(1, 0, 1, 1), back(0)), bad(nil, nil, 0, jumping(1, 3, 1, 1), intTo(0, 0), back(0)), bad([]int{1, 1}, nil, 1, dropOf(0), jumping(1, 0, 2, 2), back(1)), good([]int{1, 1}, first, 1, jumping(1, 0, 1, 1), back(1)), good([]int{1, 1}, nil, 1, dupOf(0), dropOf(0), jumping(1, 0, 3, 3), dropOf(0), back(1)),
		bad(list, nil, 1, listTo([]impl.Instr{load(3, 0, 0), back(0)}, []impl.Instr{back(0)})...), pairOf(false, false, load(3, 2, 0), back(0)), pairOf(true, false, load(3, 1, 0), back(0)), pairOf(false, false, load(3, 0, 2), back(0)), pairOf(false, false, load(3, 0, 1), back(0)),
		pairOf(true, false, dupOf(0), dropOf(0), load(3, 1, 0), back(0)), pairOf(false, false, dupOf(2), dropOf(0), load(3, 1, 0), back(2)), pairOf(true, true, load(3, 1, 0), dupOf(3), back(3)),
		// What is loaded has the type of its field, and is not owned, but alive as long as that from which it is loaded.
		pairOf(true, false, dupOf(2), dropOf(0), back(2)), pairOf(false, false, dropOf(0), dupOf(2), back(2)), pairOf(false, false, dropOf(0), back(2)), pairOf(false, false, back(2)), pairOf(false, false, dupOf(1), dropOf(0), back(1)), pairOf(false, false, dropOf(2), back(0)), pairOf(true, true, dupOf(2), back(2)), pairOf(true, false, addTo(3, 1, 1), back(0)), pairOf(false, false, addTo(3, 1, 2), back(0)), pairOf(true, false, dupOf(0), dropOf(0), dupOf(2), dropOf(0), back(2)),
		pairOf(true, false, dupOf(0), callTo(3, 2, 0), dropOf(3), dupOf(2), dropOf(0), back(2)), pairOf(false, false, callTo(3, 2, 0), dropOf(3), dupOf(2), back(2)), pairOf(true, false, dupOf(2), callTo(3, 1, 2, 2), dropOf(0), back(3)), pairOf(true, true, dupOf(2), tailTo(1, 2, 2)), pairOf(true, true, conTo(3, 0), tailTo(1, 2, 3)), pairOf(false, false, conTo(3, 0), tailTo(1, 2, 3)), pairOf(false, false, dupOf(2), dropOf(0), dupOf(2), tailTo(1, 2, 2)), pairOf(true, false, conTo(3, 0), callTo(3, 1, 2, 3), dropOf(0), back(3)), pairOf(false, false, conTo(3, 0), dropOf(0), callTo(3, 1, 2, 3), back(3)), pairOf(false, false, callTo(3, 1, 2, 0), back(3)),
		// It can be matched itself, also when it comes from a field of a field.
		pairOf(true, true, jumping(1, 2, 6, 6), dupOf(2), back(2)), pairOf(true, true, jumping(1, 2, 8, 6), load(3, 1, 2), jump(10), dupOf(0), back(0), dupOf(3), back(3)), pairOf(false, false, jumping(1, 2, 5, 8), dupOf(2), dropOf(0), back(2), load(3, 1, 2), dropOf(0), dupOf(3), back(3)),
		pairOf(true, false, jumping(1, 2, 5, 6), back(0), load(3, 1, 2), dupOf(3), dropOf(0), back(3)), pairOf(false, false, jumping(1, 2, 5, 6), back(0), load(3, 1, 2), dropOf(0), dupOf(3), back(3)), pairOf(true, false, jumping(1, 2, 5, 6), back(0), dupOf(2), dropOf(0), load(3, 1, 2), dupOf(3), dropOf(2), back(3)), pairOf(false, false, jumping(1, 2, 5, 6), back(0), dropOf(0), load(3, 1, 2), back(3)),
		// A field that is loaded into the register that it comes from: that must not be owned, and is not known to be loaded then.
		bad(list, nil, 1, listTo([]impl.Instr{back(0)}, []impl.Instr{load(0, 1, 0), back(0)})...), bad(list, first, 1, listTo([]impl.Instr{dupOf(0), back(0)}, []impl.Instr{load(0, 1, 0), dupOf(0), back(0)})...), good(list, first, 0, jumping(1, 0, 1, 3), intTo(1, 0), back(1), load(0, 0, 0), back(0)), bad(list, first, 1, jumping(1, 0, 1, 3), dupOf(0), back(0), load(0, 0, 0), back(0)), pairOf(true, false, jumping(1, 2, 5, 6), back(0), load(2, 0, 2), back(0)), pairOf(false, false, jumping(1, 2, 5, 6), back(0), load(2, 1, 2), dupOf(2), dropOf(0), back(2)), pairOf(false, false, jumping(1, 2, 5, 6), back(0), load(2, 1, 2), openOf(0, 2), back(2)),
		// A register that is set loses what was known of it, and what was loaded from it.
		bad(list, first, 1, listTo([]impl.Instr{dupOf(0), back(0)}, []impl.Instr{intTo(0, 1), dupOf(2), back(2)})...), bad(list, first, 1, listTo([]impl.Instr{dupOf(0), back(0)}, []impl.Instr{conTo(0, 0), dupOf(2), dropOf(0), back(2)})...), bad(list, first, 1, listTo([]impl.Instr{dupOf(0), back(0)}, []impl.Instr{conTo(0, 0), load(3, 1, 0), back(0)})...), pairOf(false, false, move(0, 0), dupOf(2), dropOf(0), back(2)), pairOf(false, false, move(0, 0), load(2, 1, 0), back(0)), pairOf(false, false, move(0, 0), openOf(0, 2), back(2)), pairOf(true, false, move(0, 0), back(0)), pairOf(false, false, dupOf(2), move(2, 2), openOf(0, 2), dropOf(2), back(2)), pairOf(false, false, intTo(2, 1), openOf(0, 2), back(2)), pairOf(true, false, intTo(1, 1), openOf(0, 2), back(2)), pairOf(false, false, intTo(2, 1), dupOf(2), back(0)),
		pairOf(true, false, move(3, 0), dropOf(3), conTo(0, 0), back(0)), pairOf(false, false, move(3, 0), dupOf(2), dropOf(3), back(2)), pairOf(false, false, move(3, 0), load(4, 0, 3), back(3)), pairOf(true, false, dupOf(0), move(3, 0), dupOf(2), dropOf(3), dropOf(0), back(2)), pairOf(false, true, load(2, 1, 2), back(0)), pairOf(false, false, load(2, 0, 0), openOf(0, 2), back(0)), pairOf(true, false, load(2, 0, 0), back(0)), pairOf(true, false, load(3, 1, 0), load(2, 0, 0), openOf(0, 3), back(3)), pairOf(true, false, load(1, 1, 0), openOf(0, 1), back(1)), pairOf(true, false, load(1, 1, 0), openOf(0, 2), back(2)), pairOf(false, false, load(1, 1, 0), openOf(0, 1), back(2)),
		// A walk down a list, in which the register that comes first is set to what comes later.
		pairOf(false, true, jumping(1, 2, 9, 6), load(0, 1, 2), dupOf(2), back(2), dupOf(0), back(0)), pairOf(true, true, jumping(1, 2, 8, 6), load(3, 1, 2), load(2, 0, 0), dupOf(0), back(0)),
		// OpSwitch of a register whose constructor is known takes one way alone.
		pairOf(true, false, jumping(1, 0, 5, 6), dropOf(5), back(0)), pairOf(false, false, jumping(1, 0, 6, 5), dropOf(5), back(0)), pairOf(true, false, jumping(1, 0, 6, 7), dupOf(0), dropOf(3), load(3, 1, 0), openOf(0, 3), back(3)), bad(list, nil, 1, listTo([]impl.Instr{jumping(1, 0, 2, 2), back(0)}, []impl.Instr{jumping(4, 0, 6, 6), back(0)})...), good(list, nil, 1, jumping(1, 0, 1, 3), jumping(1, 0, 2, 4), back(0), back(0), load(5, 0, 0), back(5)),
		// OpOpen asks for an owned register with a constructor, and for all its fields, in order.
		pairOf(true, false, openBoth(back(2))...), pairOf(false, true, openBoth(back(2))...), pairOf(false, false, openBoth(back(0))...), pairOf(false, false, openOf(0), back(0)), pairOf(false, false, openOf(0, 1), back(1)), pairOf(false, false, openOf(0, 1, 2), back(2)), pairOf(false, false, openOf(0, 2, 1), back(2)), pairOf(false, false, openOf(0, 2, 2), dropOf(2), back(2)), pairOf(false, false, openOf(0, 0), back(0)), pairOf(false, false, openOf(0, 3), back(3)), pairOf(false, false, openOf(2, 2), back(0)), pairOf(false, false, openOf(1), back(0)), pairOf(true, true, dupOf(0), openOf(0, 2), back(2)),
		pairOf(false, false, openBoth(openOf(0, 2), back(2))...), pairOf(true, false, append([]impl.Instr{dupOf(0)}, openBoth(openOf(0, 2), dropOf(2), back(2))...)...), pairOf(false, false, append([]impl.Instr{dupOf(0)}, openBoth(back(2))...)...), pairOf(true, false, append([]impl.Instr{dupOf(0)}, openBoth(dropOf(2), back(0))...)...), pairOf(true, false, append([]impl.Instr{dupOf(2)}, openBoth(dropOf(2), back(2))...)...), pairOf(false, false, dropOf(0), openOf(0, 2), back(2)),
		pairOf(false, false, openOf(0), conTo(3, 0), back(3)), pairOf(false, false, openOf(0, 1), conTo(3, 0), back(3)), pairOf(false, false, openOf(0, 3), conTo(3, 0), back(3)), pairOf(false, false, openOf(0, 2, 1), conTo(3, 0), back(3)), pairOf(false, false, openOf(0, 2, 1), back(2)), pairOf(false, false, reuseOf(0), conTo(3, 0), back(3)), pairOf(false, false, load(3, 1, 2), openOf(0, 3), conTo(4, 0), back(4)), pairOf(false, false, jumping(1, 2, 5, 6), back(0), load(3, 1, 2), openOf(0, 3), conTo(4, 0), back(4)), pairOf(true, false, conTo(3, 0), openOf(0, 2), dropOf(2), back(3)),
		good(list, nil, 1, listTo([]impl.Instr{openOf(0), conTo(0, 0), back(0)}, []impl.Instr{back(0)})...), bad(list, nil, 1, openOf(0), conTo(0, 0), back(0)), bad([]int{2}, nil, 1, openOf(0), conTo(0, 0), back(0)), bad([]int{0}, nil, 0, openOf(0), back(0)),
		good(three, nil, 1, jumping(3, 0, 1, 6, 13), load(2, 0, 0), load(3, 1, 0), openOf(0, 2, 3), dropOf(3), back(2), load(5, 2, 0), load(2, 1, 0), load(4, 0, 0), openOf(0, 4, 2, 5), dropOf(4), dropOf(5), tailTo(2, 2), load(3, 1, 0), openOf(0, 3), dropOf(3), conTo(3, 0), back(3)), bad(three, nil, 1, jumping(3, 0, 1, 1, 1), load(2, 0, 0), back(2)),
		bad(three, nil, 1, jumping(3, 0, 1, 7, 7), load(2, 0, 0), load(3, 1, 0), openOf(0, 3, 2), dropOf(3), back(2), back(2), dropOf(0), conTo(0, 0), back(0)), good(three, nil, 1, jumping(3, 0, 1, 7, 7), load(2, 0, 0), load(3, 1, 0), openOf(0, 2, 3), dropOf(3), back(2), back(2), dropOf(0), conTo(0, 0), back(0)), bad(three, nil, 1, jumping(3, 0, 1, 7, 7), load(2, 0, 0), load(3, 0, 0), openOf(0, 2, 3), dropOf(3), back(2), back(2), dropOf(0), conTo(0, 0), back(0)),
		good([]int{4}, nil, 1, jumping(4, 0, 1, 4), load(1, 0, 0), openOf(0, 1), back(1), load(1, 1, 0), openOf(0, 1), back(1)), bad([]int{4}, nil, 1, jumping(4, 0, 1, 4), load(1, 1, 0), openOf(0, 1), back(1), load(1, 1, 0), openOf(0, 1), back(1)), bad([]int{4}, nil, 1, jumping(4, 0, 1, 1), load(1, 0, 0), openOf(0, 1), back(1)),
		// OpReuse also keeps a cell, which must be used by as many fields, once, and before the end.
		pairOf(true, false, reuseOf(0, 2), intoOf(0, conTo(3, 1, 1, 2)), back(3)), pairOf(true, false, reuseOf(0, 2), intoOf(0, conTo(0, 1, 1, 2)), back(0)), pairOf(false, false, reuseOf(0, 2), back(2)), pairOf(false, false, reuseOf(0, 2), conTo(3, 1, 1, 2), back(3)), pairOf(false, false, reuseOf(0, 2), tailTo(2, 2)), pairOf(true, false, reuseOf(0, 2), intoOf(0, conTo(3, 1, 1, 2)), tailTo(2, 3)), pairOf(false, false, reuseOf(0, 2), intoOf(2, conTo(3, 1, 1, 2)), back(3)), pairOf(false, false, openOf(0, 2), intoOf(0, conTo(3, 1, 1, 2)), back(3)), pairOf(false, false, intoOf(0, conTo(3, 1, 1, 0)), back(3)),
		pairOf(false, false, reuseOf(0, 2), intoOf(0, conTo(3, 0)), dropOf(3), back(2)), pairOf(true, false, reuseOf(0, 2), callTo(4, 2, 2), intoOf(0, conTo(3, 1, 1, 4)), back(3)), pairOf(false, false, reuseOf(0, 2), intoOf(0, conTo(3, 1, 1, 2)), intoOf(0, conTo(4, 1, 1, 3)), back(4)), pairOf(true, false, dupOf(0), reuseOf(0, 2), intoOf(0, conTo(3, 1, 1, 2)), dropOf(0), back(3)), pairOf(false, false, dupOf(0), reuseOf(0, 2), reuseOf(0, 2), intoOf(0, conTo(3, 1, 1, 2)), dropOf(2), back(3)), pairOf(true, false, dupOf(0), reuseOf(0, 2), openOf(0, 2), intoOf(0, conTo(3, 1, 1, 2)), dropOf(2), back(3)), pairOf(true, false, dupOf(0), reuseOf(0, 2), intoOf(0, conTo(3, 1, 1, 2)), dropOf(3), reuseOf(0, 2), intoOf(0, conTo(3, 1, 1, 2)), back(3)), pairOf(false, false, reuseOf(0), back(0)), pairOf(false, true, reuseOf(0, 2), intoOf(0, conTo(3, 1, 1, 2)), back(3)),
		// The cell stays kept when its register is set.
		pairOf(true, false, reuseOf(0, 2), intTo(0, 5), intoOf(0, conTo(3, 1, 1, 2)), back(3)), pairOf(true, false, reuseOf(0, 2), conTo(0, 0), dropOf(0), intoOf(0, conTo(3, 1, 1, 2)), back(3)), pairOf(true, false, reuseOf(0, 2), move(0, 1), intoOf(0, conTo(3, 1, 0, 2)), back(3)), pairOf(false, false, reuseOf(0, 2), intTo(0, 5), back(2)),
		good(list, nil, 1, listTo([]impl.Instr{reuseOf(0), intoOf(0, conTo(0, 0)), back(0)}, []impl.Instr{back(0)})...), bad(list, nil, 1, listTo([]impl.Instr{reuseOf(0), conTo(0, 0), back(0)}, []impl.Instr{back(0)})...), bad(list, nil, 1, intoOf(0, conTo(1, 0)), back(0)),
		good([]int{3, 0}, nil, 1, jumping(3, 0, 6, 1, 6), load(2, 0, 0), load(3, 1, 0), load(4, 2, 0), reuseOf(0, 2, 3, 4), jump(9), dropOf(0), conTo(0, 0), back(0), intoOf(0, conTo(5, 3, 4, 3, 2)), dropOf(5), conTo(5, 0), back(5)), bad([]int{3, 0}, nil, 1, jumping(3, 0, 6, 1, 6), load(2, 0, 0), load(3, 1, 0), load(4, 2, 0), reuseOf(0, 2, 3, 4), jump(9), dropOf(0), conTo(0, 0), back(0), dropOf(2), intoOf(0, conTo(5, 2, 4, 3)), dropOf(5), conTo(5, 0), back(5)),
	}
}

// ways returns code in which two ways come together, the first one of which is that of an integer other than 0 in the register 0.
func ways(ok bool, params []int, lent []int, result int, yes []impl.Instr, no []impl.Instr, more ...impl.Instr) proving {
	second := 2 + len(yes)
	return proving{params, lent, result, all([]impl.Instr{branch(second, 0)}, yes, []impl.Instr{jump(second + len(no))}, no, more), ok}
}

// joins returns code that shows what is known where ways come together.
func joins() []proving {
	code := func(list ...impl.Instr) []impl.Instr { return list }
	own, both := []int{0, 1}, []int{0, 1, 1}
	three := []int{0, 3}
	return []proving{
		// Owners must be equal, and kept cells.
		ways(true, own, nil, 1, nil, nil, back(1)), ways(true, own, nil, 1, code(dupOf(1)), code(dupOf(1)), dropOf(1), back(1)), ways(false, own, nil, 1, code(dupOf(1)), nil, back(1)), ways(false, own, nil, 1, nil, code(dupOf(1)), back(1)), ways(false, own, nil, 1, code(dupOf(1)), code(dupOf(1), dupOf(1)), dropOf(1), back(1)), ways(true, own, nil, 1, code(dupOf(1), dropOf(1)), nil, back(1)), ways(false, both, nil, 1, code(dropOf(1)), code(dropOf(2)), back(1)), ways(true, both, nil, 1, code(dropOf(1)), code(dropOf(1)), back(2)), ways(true, both, nil, 1, code(dropOf(1), move(3, 2)), code(dropOf(2), move(3, 1)), back(3)), ways(false, both, nil, 1, code(dropOf(1), move(3, 2)), code(dropOf(2), move(4, 1)), back(3)),
		ways(true, both, nil, 1, code(dropOf(2), back(1)), code(dropOf(1)), back(2)), ways(true, both, nil, 1, code(dropOf(2), tailTo(2, 1)), code(dropOf(1)), back(2)), ways(false, both, nil, 1, code(dropOf(2), back(1)), nil, back(2)),
		// A type is known only if it is known equally.
		ways(true, own, []int{1}, 0, code(intTo(3, 1)), code(intTo(3, 2)), back(3)), ways(false, own, []int{1}, 0, code(intTo(3, 1)), nil, back(3)), ways(false, own, []int{1}, 0, nil, code(intTo(3, 1)), back(3)), ways(true, own, nil, 1, code(intTo(3, 1)), nil, back(1)), ways(true, own, nil, 1, code(conTo(3, 0)), code(conTo(3, 0)), dropOf(1), back(3)), ways(false, own, nil, 1, code(conTo(3, 0)), code(closeTo(3, 2)), dropOf(3), back(1)), ways(false, own, nil, 1, code(conTo(3, 0)), code(closeTo(3, 2)), back(1)), ways(true, own, nil, 1, code(conTo(3, 0), dropOf(3)), code(closeTo(3, 2), dropOf(3)), back(1)), ways(false, own, nil, 0, code(dropOf(1), intTo(1, 1)), code(dropOf(1)), back(1)), ways(true, own, nil, 0, code(dropOf(1), intTo(1, 1)), code(dropOf(1)), back(0)), ways(false, own, nil, 1, code(conTo(3, 0), dropOf(3)), code(closeTo(3, 2), dropOf(3)), move(4, 3), back(1)),
		// That a register is lent is, too.
		ways(true, own, []int{1}, 1, nil, nil, dupOf(1), back(1)), ways(false, own, []int{1}, 1, code(dupOf(1), move(1, 1), dropOf(1)), nil, dupOf(1), back(1)), ways(false, own, []int{1}, 1, nil, code(dupOf(1), move(1, 1), dropOf(1)), dupOf(1), back(1)), ways(true, own, []int{1}, 1, code(dupOf(1), dropOf(1)), nil, dupOf(1), back(1)), ways(false, own, []int{1}, 1, code(dupOf(1), move(1, 1)), code(dupOf(1)), dropOf(1), dupOf(1), back(1)), ways(true, own, []int{1}, 1, code(dupOf(1), move(1, 1)), code(dupOf(1)), back(1)),
		// The constructor: on both ways it is that of a pair, or each way has another one.
		{own, nil, 1, code(branch(3, 0), jumping(1, 1, 2, 5), back(1), jumping(1, 1, 4, 5), back(1), load(2, 1, 1), openOf(1, 2), back(2)), true},
		{own, nil, 1, code(branch(3, 0), jumping(1, 1, 2, 5), back(1), jumping(1, 1, 5, 4), back(1), load(2, 1, 1), openOf(1, 2), back(2)), false},
		{own, nil, 1, code(jumping(1, 1, 1, 1), load(2, 1, 1), openOf(1, 2), back(2)), false}, {own, nil, 1, code(jumping(1, 1, 1, 1), back(1)), true}, {own, nil, 1, code(jumping(1, 1, 1, 2), jump(2), load(2, 1, 1), back(1)), false}, {own, nil, 1, code(branch(2, 0), jumping(1, 1, 2, 2), load(2, 1, 1), back(1)), false}, {own, nil, 1, code(branch(2, 0), jumping(1, 1, 2, 2), back(1)), true},
		{[]int{0, 4}, nil, 4, code(jumping(4, 1, 1, 2), jump(2), load(2, 0, 1), back(1)), false}, {[]int{0, 4}, nil, 1, code(jumping(4, 1, 1, 3), load(2, 0, 1), jump(4), load(2, 1, 1), dupOf(2), dropOf(1), back(2)), false}, {[]int{0, 4}, nil, 1, code(jumping(4, 1, 1, 4), load(2, 0, 1), dupOf(2), jump(6), load(2, 1, 1), dupOf(2), dropOf(1), back(2)), true},
		// Where a register was loaded from: on both ways it is the same field, or another one, or that of another register.
		{own, nil, 1, code(jumping(1, 1, 1, 2), back(1), branch(5, 0), load(2, 1, 1), jump(6), load(2, 1, 1), openOf(1, 2), back(2)), true}, {own, nil, 1, code(jumping(1, 1, 1, 2), back(1), branch(5, 0), load(2, 1, 1), jump(6), intTo(2, 1), openOf(1, 2), back(2)), false}, {own, nil, 1, code(jumping(1, 1, 1, 2), back(1), branch(5, 0), load(2, 1, 1), jump(5), openOf(1, 2), back(2)), false},
		{three, nil, 1, code(jumping(3, 1, 1, 11, 11), branch(5, 0), load(2, 0, 1), load(3, 1, 1), jump(7), load(3, 1, 1), load(2, 0, 1), openOf(1, 2, 3), dropOf(3), back(2), back(2), dropOf(1), conTo(1, 0), back(1)), true}, {three, nil, 1, code(jumping(3, 1, 1, 11, 11), branch(5, 0), load(2, 0, 1), load(3, 1, 1), jump(7), load(3, 0, 1), load(2, 1, 1), openOf(1, 2, 3), dropOf(3), back(2), back(2), dropOf(1), conTo(1, 0), back(1)), false}, {three, nil, 1, code(jumping(3, 1, 1, 11, 11), branch(5, 0), load(2, 0, 1), load(3, 1, 1), jump(7), load(3, 0, 1), load(2, 1, 1), dropOf(1), jump(11), back(2), back(2), conTo(1, 0), back(1)), false},
		{[]int{0, 3}, []int{1}, 1, code(jumping(3, 1, 1, 8, 8), branch(4, 0), load(2, 0, 1), jump(5), load(2, 1, 1), dupOf(2), back(2), back(2), conTo(2, 0), back(2)), false}, {[]int{0, 3}, []int{1}, 1, code(jumping(3, 1, 1, 8, 8), branch(4, 0), load(2, 1, 1), jump(5), load(2, 1, 1), dupOf(2), back(2), back(2), conTo(2, 0), back(2)), true},
		// A field of one of two lists, and that of the other one.
		{both, []int{1, 2}, 1, code(jumping(1, 1, 1, 3), dupOf(2), back(2), jumping(1, 2, 4, 6), dupOf(1), back(1), branch(9, 0), load(3, 1, 1), jump(10), load(3, 1, 2), dupOf(3), back(3)), false}, {both, []int{1, 2}, 1, code(jumping(1, 1, 1, 3), dupOf(2), back(2), jumping(1, 2, 4, 6), dupOf(1), back(1), branch(9, 0), load(3, 1, 1), jump(10), load(3, 1, 1), dupOf(3), back(3)), true},
		// Cells that are kept on both ways, with as many fields, or with others, or on one way alone.
		{own, nil, 1, code(jumping(1, 1, 1, 2), back(1), load(2, 0, 1), load(3, 1, 1), branch(7, 0), reuseOf(1, 3), jump(8), reuseOf(1, 3), intoOf(1, conTo(4, 1, 2, 3)), back(4)), true}, {own, nil, 1, code(jumping(1, 1, 1, 2), back(1), load(2, 0, 1), load(3, 1, 1), branch(7, 0), reuseOf(1, 3), jump(8), openOf(1, 3), intoOf(1, conTo(4, 1, 2, 3)), back(4)), false}, {own, nil, 1, code(jumping(1, 1, 1, 2), back(1), load(2, 0, 1), load(3, 1, 1), branch(7, 0), openOf(1, 3), jump(8), reuseOf(1, 3), conTo(4, 1, 2, 3), back(4)), false}, {own, nil, 1, code(jumping(1, 1, 1, 2), back(1), load(2, 0, 1), load(3, 1, 1), branch(7, 0), openOf(1, 3), jump(8), openOf(1, 3), conTo(4, 1, 2, 3), back(4)), true},
		{own, nil, 1, code(jumping(1, 1, 1, 2), back(1), load(2, 0, 1), load(3, 1, 1), branch(8, 0), reuseOf(1, 3), intoOf(1, conTo(4, 1, 2, 3)), jump(10), openOf(1, 3), move(4, 3), back(4)), true},
		{[]int{0, 3, 0}, nil, 1, code(jumping(3, 1, 1, 6, 12), load(3, 0, 1), load(4, 1, 1), reuseOf(1, 3, 4), dropOf(4), jump(15), load(3, 0, 1), load(4, 1, 1), load(5, 2, 1), reuseOf(1, 3, 4, 5), dropOf(5), dropOf(4), load(4, 1, 1), dropOf(1), conTo(3, 0), back(3)), false},
		{[]int{0, 3, 0}, nil, 3, code(jumping(3, 1, 1, 5, 5), load(3, 0, 1), load(4, 1, 1), reuseOf(1, 3, 4), jump(6), back(1), intoOf(1, conTo(2, 2, 4, 3)), back(2)), true},
		// What is never reached is not looked at, and does not come together with anything.
		{own, nil, 1, code(back(1), dropOf(1), dropOf(1), back(0)), true}, {own, nil, 1, code(jump(2), dropOf(1), back(1)), true}, {own, nil, 1, code(tailTo(2, 1), dropOf(1), back(1)), true}, {own, nil, 1, code(back(1), branch(3, 5), back(5), back(4)), true}, {own, nil, 1, code(jump(3), dupOf(1), jump(3), back(1)), true}, {own, nil, 1, code(branch(2, 0), jump(2), back(1)), true},
		{[]int{1}, nil, 1, code(jumping(1, 0, 1, 3), jumping(1, 0, 4, 2), dropOf(5), jump(4), back(0)), true}, {[]int{1}, nil, 1, code(jumping(1, 0, 1, 3), jumping(1, 0, 4, 2), dropOf(0), back(0), back(0)), true}, {[]int{1}, nil, 1, code(jumping(1, 0, 1, 3), jumping(1, 0, 2, 4), dropOf(0), back(0), back(0)), false},
		// Three ways come together.
		{three, nil, 3, code(jumping(3, 1, 1, 1, 1), back(1)), true}, {three, nil, 3, code(jumping(3, 1, 1, 3, 5), intTo(2, 1), jump(6), intTo(2, 2), jump(6), intTo(2, 3), addTo(2, 2, 2), back(1)), true}, {three, nil, 3, code(jumping(3, 1, 1, 3, 5), intTo(2, 1), jump(6), intTo(3, 2), jump(6), intTo(2, 3), addTo(2, 2, 2), back(1)), false}, {three, nil, 3, code(jumping(3, 1, 1, 3, 4), dupOf(1), jump(5), jump(5), jump(5), back(1)), false},
	}
}

func TestVerifiedProcOfTheRules(t *testing.T) {
	for _, list := range [][]proving{consumptions(), matches(), joins()} {
		yes, no := 0, 0
		for _, c := range list {
			im := c.image()
			if !impl.ValidImage(im) {
				t.Errorf("%s is not valid", showCode(c.code))
				continue
			}
			_, meant := verifyMeaning(im, 3)
			if got := impl.VerifiedProc(im, 3); got != c.ok || meant != c.ok || impl.Verified(im) != c.ok {
				t.Errorf("VerifiedProc of %s with %v, %v and %d = %v, and in the second way %v", showCode(c.code), c.params, c.lent, c.result, got, meant)
			}
			for f := 0; f < 3; f++ {
				if c.params = im.Procs[3].Params; !impl.VerifiedProc(im, f) {
					t.Errorf("VerifiedProc of the procedure %d beside %s = false", f, showCode(c.code))
				}
			}
			if c.ok {
				yes++
			} else {
				no++
			}
		}
		if yes < 20 || no < 20 {
			t.Errorf("%d pieces of code are verified, and %d are not", yes, no)
		}
	}
}
