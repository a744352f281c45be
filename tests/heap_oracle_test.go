package tests

import "loop.example/refcountml/impl"

// cell is a value of a data type or an arrow type with its count; it is freed if this is 0.
type cell struct {
	n     int
	count int
	parts []word
}

// word is an integer, or a cell.
type word struct {
	n int
	c *cell
}

// counted is a third evaluator, in which counting steps do what they are for: it keeps counts, and frees cells.
type counted struct {
	n     impl.Normal
	left  int
	out   []int
	live  int
	wrong string
}

// wrongStep is what it panics with if a step touches what is freed, or what is not there.
type wrongStep struct{}

// frame has the variables of a call, and the cells that are kept for them.
type frame struct {
	vars []word
	kept map[int]*cell
}

// countedMeaning returns what a normal form does with its counting steps, and what goes wrong, if something does.
func countedMeaning(n impl.Normal, most int) (out impl.Outcome, wrong string) {
	m := &counted{n: n, left: most}
	defer func() {
		switch r := recover(); r.(type) {
		case nil:
		case cutOff:
			out = impl.Outcome{Status: impl.Spent, Calls: most, Out: m.out}
		case wrongStep:
			wrong = m.wrong
		default:
			panic(r)
		}
	}()
	x := m.block(&frame{kept: make(map[int]*cell)}, n.Routines[0].Body)
	if m.live != 0 {
		m.fail("something is left at the end")
	}
	return impl.Outcome{Value: x.n, Calls: most - m.left, Out: m.out}, ""
}

// fail ends the evaluation.
func (m *counted) fail(what string) {
	m.wrong = what
	panic(wrongStep{})
}

// touch fails if a cell is freed.
func (m *counted) touch(x word) {
	if x.c != nil && x.c.count <= 0 {
		m.fail("a freed cell is touched")
	}
}

// dup counts an owner more.
func (m *counted) dup(x word) {
	m.touch(x)
	if x.c != nil {
		x.c.count++
	}
}

// drop counts an owner less, and frees what nothing owns.
func (m *counted) drop(x word) {
	m.touch(x)
	if x.c == nil {
		return
	}
	x.c.count--
	if x.c.count > 0 {
		return
	}
	m.live--
	for _, part := range x.c.parts {
		m.drop(part)
	}
}

// open takes a value apart, and returns its cell if nothing else owns it.
func (m *counted) open(x word) *cell {
	m.touch(x)
	if x.c.count > 1 {
		for _, part := range x.c.parts {
			m.dup(part)
		}
		x.c.count--
		return nil
	}
	x.c.count = 0
	m.live--
	return x.c
}

// store returns a new value with some parts.
func (m *counted) store(n int, parts []word) word {
	m.live++
	return word{c: &cell{n: n, count: 1, parts: parts}}
}

// block executes a block in a frame, and returns its result.
func (m *counted) block(f *frame, b impl.Block) word {
	outer := len(f.vars)
	for _, s := range b.Steps {
		if s.Op >= impl.OpDup {
			m.count(f, s)
			continue
		}
		f.vars = append(f.vars, m.step(f, s))
	}
	x := f.vars[b.Result]
	m.touch(x)
	f.vars = f.vars[:outer]
	return x
}

// count executes a counting step.
func (m *counted) count(f *frame, s impl.Step) {
	v := s.Args[0]
	switch s.Op {
	case impl.OpDup:
		m.dup(f.vars[v])
	case impl.OpDrop:
		m.drop(f.vars[v])
	case impl.OpOpen:
		m.open(f.vars[v])
	case impl.OpReuse:
		if f.kept[v] != nil {
			m.fail("a cell is kept already")
		}
		f.kept[v] = m.open(f.vars[v])
	}
}

// step executes a step that is no counting step.
func (m *counted) step(f *frame, s impl.Step) word {
	var args []word
	for _, v := range s.Args {
		m.touch(f.vars[v])
		args = append(args, f.vars[v])
	}
	switch s.Op {
	case impl.OpIf:
		if args[0].n == 0 {
			return m.block(f, s.Kids[1])
		}
		return m.block(f, s.Kids[0])
	case impl.OpMatch:
		before := len(f.vars)
		f.vars = append(f.vars, args[0].c.parts...)
		x := m.block(f, s.Kids[arm(m.n.Decls, s.Num, args[0].c.n)])
		f.vars = f.vars[:before]
		return x
	case impl.OpCon:
		if s.Into > 0 {
			delete(f.kept, s.Into-1)
		}
		return m.store(s.Num, args)
	case impl.OpClose:
		return m.store(s.Num, args)
	case impl.OpCall:
		return m.call(s.Num, args)
	case impl.OpApply:
		for _, part := range args[0].c.parts {
			m.dup(part)
		}
		g, inner := args[0].c.n, append(append([]word{}, args[0].c.parts...), args[1])
		m.drop(args[0])
		return m.call(g, inner)
	}
	return m.simple(s, args)
}

// call executes the body of a routine.
func (m *counted) call(g int, args []word) word {
	if m.left == 0 {
		panic(cutOff{})
	}
	m.left--
	return m.block(&frame{vars: args, kept: make(map[int]*cell)}, m.n.Routines[g].Body)
}

// simple executes a step that makes an integer.
func (m *counted) simple(s impl.Step, args []word) word {
	o := &oracle{}
	var things []thing
	for _, x := range args {
		things = append(things, thing{n: x.n})
	}
	x := o.simple(s.Op, s.Num, things)
	m.out = append(m.out, o.o.Out...)
	return word{n: x.n}
}
