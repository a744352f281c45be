package tests

import (
	"fmt"
	"strconv"
	"strings"
	"sync"
	"testing"

	"loop.example/refcountml/impl"
)

// readFrame returns a frame of the procedure 3 with the registers of a text, which is like that of showRegs, and with as many registers as imageOf gives it.
func readFrame(at int, regs string) impl.Frame {
	f := impl.Frame{Proc: 3, At: at, Regs: make([]int, 6), Own: make([]int, 6), Held: make([]int, 6)}
	for r, text := range strings.Fields(regs) {
		text, held, _ := strings.Cut(text, "^")
		text, own, _ := strings.Cut(text, "*")
		f.Regs[r], _ = strconv.Atoi(text)
		f.Own[r], _ = strconv.Atoi(own)
		f.Held[r], _ = strconv.Atoi(held)
	}
	return f
}

// showRegs returns the text of the registers of a frame: each word, with how often it is owned after a star, and what is held after a caret.
// Registers at the end that have nothing are left out.
func showRegs(f impl.Frame) string {
	var out []string
	many := 0
	for r, w := range f.Regs {
		text := strconv.Itoa(w)
		if f.Own[r] != 0 {
			text += fmt.Sprint("*", f.Own[r])
		}
		if f.Held[r] != 0 {
			text += fmt.Sprint("^", f.Held[r])
		}
		if out = append(out, text); text != "0" {
			many = r + 1
		}
	}
	return strings.Join(out[:many], " ")
}

// showHeap returns the text of a heap.
func showHeap(h []impl.Cell) string {
	var out []string
	for _, c := range h {
		switch {
		case c.Count > 0:
			out = append(out, fmt.Sprintf("%d:%d(%s)", c.Count, c.Tag, strings.Trim(fmt.Sprint(c.Fields), "[]")))
		case c.Count == 0:
			out = append(out, "free")
		default:
			out = append(out, fmt.Sprint("kept", len(c.Fields)))
		}
	}
	return "{" + strings.Join(out, " ") + "}"
}

// showState returns the text of a state: its status, its frames and its heap, and what there is of calls, printed numbers and the value.
func showState(s impl.State) string {
	out := []string{statusOf(s.Status)}
	for _, f := range s.Frames {
		dst := ""
		if f.Dst != 0 {
			dst = fmt.Sprint(">", f.Dst)
		}
		out = append(out, fmt.Sprintf("%d@%d%s[%s]", f.Proc, f.At, dst, showRegs(f)))
	}
	out = append(out, showHeap(s.Heap))
	if s.Calls != 0 {
		out = append(out, fmt.Sprint("calls", s.Calls))
	}
	if len(s.Out) > 0 {
		out = append(out, fmt.Sprint("out", s.Out))
	}
	if s.Value != 0 {
		out = append(out, fmt.Sprint("value", s.Value))
	}
	return strings.Join(out, " ")
}

// scene is a valid state of a valid image.
type scene struct {
	im impl.Image
	s  impl.State
}

// director makes scenes that no run needs to come by, in which the next instruction can mostly be executed.
type director struct {
	coder
	s impl.State
}

// top returns the innermost frame.
func (m *director) top() *impl.Frame {
	return &m.s.Frames[len(m.s.Frames)-1]
}

// liveOnes returns the indices of the live cells.
func (m *director) liveOnes() []int {
	var out []int
	for i, c := range m.s.Heap {
		if c.Count > 0 {
			out = append(out, i)
		}
	}
	return out
}

// fill makes the cells of a heap, without their counts: constructors, closures and others.
func (m *director) fill(cells int) {
	m.s.Heap = make([]impl.Cell, cells)
	var made []int
	for _, i := range m.order(cells) {
		switch m.pick(10) {
		case 0:
		case 1, 2:
			m.s.Heap[i] = keep(m.pick(4))
		default:
			m.s.Heap[i] = m.cell(made)
			made = append(made, i)
		}
	}
	for len(m.s.Heap) > 0 && m.s.Heap[len(m.s.Heap)-1].Count == 0 {
		m.s.Heap = m.s.Heap[:len(m.s.Heap)-1]
	}
}

// cell returns a live cell whose fields point to cells that are made.
func (m *director) cell(made []int) impl.Cell {
	out := live(1, m.pick(100))
	fields := m.pick(4)
	if all := impl.ConCount(m.im.Decls); all > 0 && m.pick(2) == 0 {
		out.Tag = m.pick(all)
		fields = len(impl.ConFields(m.im.Decls, out.Tag))
	} else if g := m.pick(len(m.im.Procs)); m.pick(4) > 0 {
		out.Tag = all + g
		fields = max(0, min(3, len(m.im.Procs[g].Params)-1))
	}
	for range fields {
		out.Fields = append(out.Fields, m.wordTo(made))
	}
	return out
}

// word returns the word of a register, which may point to no cell, or to one that is not live.
func (m *director) word() int {
	switch m.pick(8) {
	case 0:
		return 0
	case 1:
		return 1000 + m.pick(len(m.s.Heap)+2)
	case 2:
		return m.pickOf([]int{1000, 5000, 1 << 62, 999, -999})
	}
	return m.wordTo(m.liveOnes())
}

// frames makes the frames, which own and hold nothing yet.
func (m *director) frames(many int) {
	for k := 0; k < many; k++ {
		f := impl.Frame{Proc: m.pick(len(m.im.Procs))}
		p := m.im.Procs[f.Proc]
		f.At = m.pick(len(p.Code))
		f.Own, f.Held = make([]int, p.Regs), make([]int, p.Regs)
		for range p.Regs {
			f.Regs = append(f.Regs, m.word())
		}
		if k > 0 {
			f.Dst = m.pick(len(m.s.Frames[k-1].Regs))
		}
		m.s.Frames = append(m.s.Frames, f)
	}
}

// regWith returns a register of the innermost frame with a word of which something holds, or any one, if there is none.
func (m *director) regWith(holds func(w int) bool) int {
	var fit []int
	for r, w := range m.top().Regs {
		if holds(w) {
			fit = append(fit, r)
		}
	}
	if len(fit) == 0 || m.pick(12) == 0 {
		return m.pick(len(m.top().Regs))
	}
	return m.pickOf(fit)
}

// isLive reports whether a word is a pointer to a live cell.
func (m *director) isLive(w int) bool {
	return w >= 1000 && w-1000 < len(m.s.Heap) && m.s.Heap[w-1000].Count > 0
}

// given returns a register with an integer, or with a pointer to a live cell.
func (m *director) given() int {
	return m.regWith(func(w int) bool { return w < 1000 || m.isLive(w) })
}

// givenAll returns some of them.
func (m *director) givenAll(many int) []int {
	var out []int
	for range many {
		out = append(out, m.given())
	}
	return out
}

// fields returns a register for each pointer among the fields of the cell to which a register points, if there is one.
func (m *director) fields(r int) []int {
	var out []int
	if w := m.top().Regs[r]; m.isLive(w) {
		for _, field := range m.s.Heap[w-1000].Fields {
			if field >= 1000 {
				m.provide(field, r)
				out = append(out, m.regWith(func(w int) bool { return w == field }))
			}
		}
	}
	return out
}

// provide mostly puts a word into a register, but for some one.
func (m *director) provide(w int, but int) {
	if r := m.pick(len(m.top().Regs)); r != but && m.pick(8) > 0 {
		m.top().Regs[r] = w
	}
}

// next returns an instruction with an operation that fits the innermost frame mostly, in code that has some instructions after it.
func (m *director) next(op int, at int, last int) impl.Instr {
	regs := len(m.top().Regs)
	integer := func(w int) bool { return w < 1000 }
	switch opName(op) {
	case "int":
		return to(m.pick(regs), op, m.pick(1999)-999)
	case "add", "sub", "mul", "less":
		return to(m.pick(regs), op, 0, m.regWith(integer), m.regWith(integer))
	case "print":
		return to(m.pick(regs), op, 0, m.regWith(integer))
	case "con":
		if all := impl.ConCount(m.im.Decls); all > 0 {
			c := m.pick(all)
			x := conTo(m.pick(regs), c, m.givenAll(len(impl.ConFields(m.im.Decls, c)))...)
			x.Into = m.pickOf([]int{0, 1 + m.pick(regs), 1 + m.pick(regs)})
			return x
		}
	case "close":
		if g := m.pick(len(m.im.Procs)); len(m.im.Procs[g].Params) > 0 && len(m.im.Procs[g].Lent) == 0 {
			return closeTo(m.pick(regs), g, m.givenAll(len(m.im.Procs[g].Params)-1)...)
		}
	case "call", "tail":
		g := m.pick(len(m.im.Procs))
		x := in(op, g, m.givenAll(len(m.im.Procs[g].Params))...)
		if opName(op) == "call" {
			x.Dst = m.pick(regs)
		}
		return x
	case "apply":
		closure := func(w int) bool { return m.isLive(w) && m.s.Heap[w-1000].Tag >= impl.ConCount(m.im.Decls) }
		return to(m.pick(regs), op, 0, m.regWith(closure), m.given())
	case "open", "reuse":
		r := m.regWith(m.isLive)
		return in(op, 0, append([]int{r}, m.fields(r)...)...)
	case "move":
		return to(m.pick(regs), op, 0, m.given())
	case "load":
		return load(m.pick(regs), m.pick(3), m.regWith(m.isLive))
	case "branch":
		return branch(m.after(at, last), m.regWith(integer))
	case "jump":
		return jump(m.after(at, last))
	case "switch":
		return m.switching(at, last)
	case "return":
		return back(m.given())
	}
	return in(impl.OpDup+m.pick(2), 0, m.regWith(m.isLive))
}

// switching returns an OpSwitch instruction, if there is a data type.
func (m *director) switching(at int, last int) impl.Instr {
	r := m.regWith(func(w int) bool { return m.isLive(w) && m.s.Heap[w-1000].Tag < impl.ConCount(m.im.Decls) })
	for t := range len(m.im.Decls) {
		cons := impl.ConsOf(m.im.Decls, t+1)
		if w := m.top().Regs[r]; len(cons) == 0 || m.isLive(w) && !has(cons, m.s.Heap[w-1000].Tag) && m.pick(8) > 0 {
			continue
		}
		x := jumping(t+1, r)
		for range cons {
			x.Jumps = append(x.Jumps, m.after(at, last))
		}
		return x
	}
	return in(impl.OpDrop, 0, r)
}

// place puts an instruction into code at which the innermost frame is.
func (m *director) place(op int) {
	f := m.top()
	last := 1 + m.pick(6)
	at := m.pick(last)
	var code []impl.Instr
	for k := 0; k < last; k++ {
		if k == at {
			code = append(code, m.next(op, at, last))
		} else {
			code = append(code, m.instr(len(f.Regs), k, last))
		}
	}
	m.im.Procs[f.Proc].Code = append(code, m.leaving(len(f.Regs)))
	f.At = at
	for k := range m.s.Frames {
		m.s.Frames[k].At = min(m.s.Frames[k].At, len(m.im.Procs[m.s.Frames[k].Proc].Code)-1)
	}
}

// consumed returns the registers with pointers that an instruction consumes.
func (m *director) consumed(x impl.Instr) []int {
	h := hand{im: m.im, s: m.s, x: x}
	var out []int
	for k, r := range x.Args {
		switch opName(x.Op) {
		case "open", "reuse":
			if k > 0 {
				continue
			}
		case "drop", "con", "close", "call", "tail", "apply", "move", "return":
		default:
			continue
		}
		if h.arg(k) >= 1000 && !h.isLent(opName(x.Op), k) {
			out = append(out, r)
		}
	}
	return out
}

// own makes the innermost frame own what its instruction consumes, and sometimes more or less.
func (m *director) own(bare bool) {
	f := m.top()
	x := m.im.Procs[f.Proc].Code[f.At]
	for _, r := range m.consumed(x) {
		if m.isLive(f.Regs[r]) && m.pick(12) > 0 {
			f.Own[r]++
		}
	}
	for k := range m.s.Frames {
		f := &m.s.Frames[k]
		for r, w := range f.Regs {
			if m.isLive(w) && m.pick(3) == 0 && !(bare && k == len(m.s.Frames)-1) && !(setting(x.Op) && r == x.Dst && m.pick(6) > 0) {
				f.Own[r] += 1 + m.pick(2)
			}
		}
		if k+1 < len(m.s.Frames) {
			f.Own[m.s.Frames[k+1].Dst] = 0
		}
	}
}

// hold makes registers hold the kept cells, and reports whether there is room for all.
func (m *director) hold(bare bool) bool {
	for i, c := range m.s.Heap {
		if c.Count != -1 {
			continue
		}
		k := m.pickOf([]int{m.pick(len(m.s.Frames)), len(m.s.Frames) - 1})
		if bare {
			k = 0
		}
		f := &m.s.Frames[k]
		r := m.pick(len(f.Regs))
		if x := m.im.Procs[f.Proc].Code[f.At]; x.Into > 0 && m.pick(4) > 0 {
			r = x.Into - 1
			if n := len(x.Args); m.pick(3) > 0 {
				m.s.Heap[i] = keep(n)
			}
		}
		if f.Held[r] != 0 || bare && len(m.s.Frames) == 1 {
			return false
		}
		f.Held[r] = 1000 + i
	}
	return true
}

// count makes the counts exact, and reports whether each live cell is referred to.
func (m *director) count() bool {
	for i := len(m.s.Heap) - 1; i >= 0; i-- {
		if m.s.Heap[i].Count > 0 && m.refs()[i] == 0 && !m.adopt(i) {
			return false
		}
	}
	refs := m.refs()
	for i := range m.s.Heap {
		if m.s.Heap[i].Count > 0 {
			m.s.Heap[i].Count = refs[i]
		}
	}
	return true
}

// refs returns how often each cell is referred to.
func (m *director) refs() map[int]int {
	out := refsMeaning(m.s.Heap)
	for _, f := range m.s.Frames {
		for r, own := range f.Own {
			out[f.Regs[r]-1000] += own
		}
	}
	return out
}

// adopt makes a register of another frame than the innermost one own a cell, and reports whether there is one for it.
func (m *director) adopt(i int) bool {
	for k := 0; k+1 < len(m.s.Frames); k++ {
		f := &m.s.Frames[k]
		for r := range f.Regs {
			if f.Own[r] == 0 && r != m.s.Frames[k+1].Dst {
				f.Regs[r], f.Own[r] = 1000+i, 1
				return true
			}
		}
	}
	return false
}

// crowd makes the count of a cell as great as it may be, or nearly so.
func (m *director) crowd() {
	for _, i := range m.order(len(m.s.Heap)) {
		for k := range m.s.Frames {
			f := &m.s.Frames[k]
			for r, own := range f.Own {
				if own > 0 && f.Regs[r] == 1000+i {
					more := 999999 - m.pick(3) - m.s.Heap[i].Count
					f.Own[r] += more
					m.s.Heap[i].Count += more
					return
				}
			}
		}
	}
}

// directed returns a scene in which the next instruction has an operation mostly; false if it cannot be made.
func directed(sigs impl.Program, op int, seed int) (scene, bool) {
	m := &director{coder: coder{maker: maker{seed: seed}}}
	m.im = copyImage(m.image(sigs))
	frames := 1 + m.pick(4)
	bare := (opName(op) == "return" || opName(op) == "tail") && m.pick(5) > 0
	m.fill(m.pick(7))
	m.frames(frames)
	m.s.Status = impl.Running
	m.s.Calls = frames - 1 + m.pick(5)
	m.s.Most = min(40, m.s.Calls+m.pick(4)*m.pick(12))
	for k := m.pick(3); k > 0; k-- {
		m.s.Out = append(m.s.Out, m.pick(1999)-999)
	}
	m.place(op)
	if !m.hold(bare) {
		return scene{}, false
	}
	m.own(bare)
	if !m.count() {
		return scene{}, false
	}
	if m.pick(6) == 0 && !bare {
		m.crowd()
	}
	if m.pick(12) == 0 {
		m.s.Status = 1 + m.pick(2)
	}
	return scene{m.im, m.s}, true
}

// scenes returns valid states of all kinds, made only once.
var scenes = sync.OnceValue(makeScenes)

// makeScenes makes them.
func makeScenes() []scene {
	var out []scene
	for i, sigs := range append(signatures(), impl.Program{Decls: ruleForm(nil, nil, block(0, one)).Decls, Funcs: []impl.Func{{}, {Params: []int{1, 1}, Result: 1}, {Params: []int{1, 1}, Result: 1}, {Params: []int{1}, Result: 2}}}) {
		for k, op := range codeOps() {
			for seed := 0; seed < 110; seed++ {
				if x, ok := directed(sigs, op, 40000*i+1000*k+seed); ok {
					out = append(out, x)
				}
			}
		}
	}
	return append(out, endings()...)
}

// endings returns scenes that have ended, or will do so at once.
func endings() []scene {
	var out []scene
	for _, x := range []impl.Instr{back(0), back(1)} {
		im := imageOf(x)
		for _, regs := range []string{"", "7 -7", "1000 5", "999 -999 1000 1001"} {
			f := readFrame(0, regs)
			out = append(out, scene{im, impl.State{Status: impl.Running, Most: 3, Calls: 2, Frames: []impl.Frame{f}}})
		}
		out = append(out, scene{im, impl.State{Status: impl.Done, Value: -5, Most: 40, Calls: 40, Out: []int{3}}}, scene{im, impl.State{}})
	}
	return out
}

// nextIn returns the next instruction of a state that has frames.
func nextIn(im impl.Image, s impl.State) impl.Instr {
	f := s.Frames[len(s.Frames)-1]
	return im.Procs[f.Proc].Code[f.At]
}

// The promises say little if the states that they are tried with are all alike.
func TestScenesHaveAllInstructions(t *testing.T) {
	marks := make(map[string]int)
	for _, x := range scenes() {
		if !stateFits(x.im, x.s) {
			t.Fatalf("the state %s of %v is not valid", showState(x.s), x.im)
		}
		marks[statusOf(x.s.Status)]++
		if statusOf(x.s.Status) != "running" {
			continue
		}
		out := stepMeaning(x.im, x.s)
		marks[opName(nextIn(x.im, x.s).Op)+" "+strings.Replace(statusOf(out.Status), "done", "running", 1)]++
	}
	for _, op := range codeOps() {
		switch name := opName(op); name {
		case "int", "close", "jump":
			if marks[name+" running"] < 60 {
				t.Errorf("only %d instructions %s can be executed", marks[name+" running"], name)
			}
		default:
			if marks[name+" running"] < 40 || marks[name+" fault"] < 20 {
				t.Errorf("only %d instructions %s can be executed, and %d cannot", marks[name+" running"], name, marks[name+" fault"])
			}
		}
	}
	for _, name := range []string{"call spent", "tail spent", "apply spent", "spent", "fault"} {
		if marks[name] < 20 {
			t.Errorf("only %d scenes are %s", marks[name], name)
		}
	}
}

// walk is an image, and how many calls its run may have.
type walk struct {
	im   impl.Image
	most int
}

// walks returns images of all kinds that are to be run, made only once.
var walks = sync.OnceValue(makeWalks)

// makeWalks makes them.
func makeWalks() []walk {
	var out []walk
	flat := flatImages()
	for i, im := range flat {
		if i%40 == 0 || i%3 == 1 && countOps(im, impl.OpReuse) > 0 {
			out = append(out, walk{im, 40})
			if tail, ok := impl.TailCalls(im); ok && i%80 == 0 {
				out = append(out, walk{tail, 40 - i%5})
			}
		}
		if i%40 == 5 {
			out = append(out, walk{im, []int{0, 1, 2, 5}[i/40%4]})
		}
	}
	for i, im := range images()[len(flat):] {
		if i%4 == 0 {
			out = append(out, walk{im, i % 41})
		}
	}
	for i, im := range programImages() {
		out = append(out, walk{im, []int{40, 0, 7, 1, 40}[i%5]})
	}
	for i, p := range listPrograms() {
		forms := programForms(p)
		for _, n := range []impl.Normal{forms[i%8], forms[3+i%2*4]} {
			im, _ := impl.Flatten(n)
			out = append(out, walk{im, 40})
		}
	}
	return out
}

// programForms returns balanced normal forms of a program, with and without what is lent, taken apart and reused.
func programForms(p impl.Program) []impl.Normal {
	var out []impl.Normal
	n, _ := impl.Normalize(p)
	lent, _ := impl.Borrow(n)
	for _, n := range []impl.Normal{n, lent} {
		counted, _ := impl.Count(n)
		late, _ := impl.CountLate(n)
		taken, _ := impl.Specialize(counted)
		again, _ := impl.Reuse(taken)
		out = append(out, counted, late, taken, again)
	}
	return out
}

// programImages returns images of programs that need many calls, closures that are shared and cells that are reused.
func programImages() []impl.Image {
	var out []impl.Image
	for _, p := range []impl.Program{sumProgram(), mapProgram(), chainProgram(), nestProgram(), foreverProgram(), downProgram(7), downProgram(41), growProgram(), twiceProgram(), mirrorProgram()} {
		for _, n := range programForms(p) {
			im, _ := impl.Flatten(n)
			tail, _ := impl.TailCalls(im)
			out = append(out, im, tail)
		}
	}
	return out
}

// listPrograms returns programs that match lists and make others of them, made only once.
var listPrograms = sync.OnceValue(makeListPrograms)

// makeListPrograms makes them.
func makeListPrograms() []impl.Program {
	var out []impl.Program
	for seed := 0; seed < 60; seed++ {
		m := &maker{p: signatures()[1], seed: 8100 + seed}
		first := ex(impl.OpCall, 3, ex(impl.OpCall, 2, num(seed), list(1, 2)), list(3, 4, 5))
		if seed%2 > 0 {
			first = let(first, ex(impl.OpCall, 3, ex(impl.OpCall, 2, num(2), v(0)), v(0)))
		}
		p := impl.Program{Decls: lists(), Funcs: []impl.Func{
			{Body: ex(impl.OpCall, 1, first)},
			{Params: []int{1}, Body: sumBody(1)},
			{Params: []int{0, 1}, Result: 1, Body: m.remade([]int{0, 1}, 1)},
			{Params: []int{1, 1}, Result: 1, Body: m.remade([]int{1, 1}, m.pick(2))},
		}}
		if impl.ValidProgram(p) {
			out = append(out, p)
		}
	}
	return out
}

// remade returns an expression that matches a list, one of some variables, and mostly makes another one of its tail.
func (m *maker) remade(vars []int, of int) impl.Expr {
	inner := scopeWith(vars, 0, 1)
	tail := len(vars) + 1
	rest := []impl.Expr{v(tail), ex(impl.OpCall, 2, m.fitting(inner, 0, 2, 3), v(tail)), v(of)}[m.pick(3)]
	if len(vars) == 2 && vars[0] == 1 {
		rest = []impl.Expr{ex(impl.OpCall, 3, v(tail), v(1-of)), ex(impl.OpCall, 3, v(1-of), v(tail)), v(1 - of)}[m.pick(3)]
	}
	made := ex(impl.OpCon, 1, m.fitting(inner, 0, 2, 4), rest)
	if m.pick(4) == 0 {
		made = let(made, ex(impl.OpCon, 1, num(7), v(tail+1)))
	}
	return ex(impl.OpMatch, 1, v(of), m.fitting(vars, 1, 1, 5), made)
}

// mirrorProgram turns the sides of a tree, whose nodes have three fields, and adds up what is in it.
func mirrorProgram() impl.Program {
	leaf := func(n int) impl.Expr { return ex(impl.OpCon, 0, num(n)) }
	node := func(a impl.Expr, n int, b impl.Expr) impl.Expr { return ex(impl.OpCon, 1, a, num(n), b) }
	turned := ex(impl.OpMatch, 1, v(0), ex(impl.OpCon, 0, ex(impl.OpPrint, 0, v(1))), ex(impl.OpCon, 1, ex(impl.OpCall, 1, v(3)), v(2), ex(impl.OpCall, 1, v(1))), v(0))
	sum := ex(impl.OpMatch, 1, v(0), v(1), add(ex(impl.OpCall, 2, v(1)), add(v(2), ex(impl.OpCall, 2, v(3)))), num(0))
	tree := node(node(leaf(1), 2, leaf(3)), 4, node(ex(impl.OpCon, 2), 5, leaf(6)))
	return impl.Program{Decls: []impl.Decl{dataOf([]int{0}, []int{1, 0, 1}, nil)}, Funcs: []impl.Func{
		{Body: ex(impl.OpCall, 2, ex(impl.OpCall, 1, tree))}, {Params: []int{1}, Result: 1, Body: turned}, {Params: []int{1}, Body: sum},
	}}
}

// growProgram makes a list longer by each call, and never ends.
func growProgram() impl.Program {
	return impl.Program{Decls: lists(), Funcs: []impl.Func{
		{Body: ex(impl.OpCall, 1, list())},
		{Params: []int{1}, Body: ex(impl.OpCall, 1, ex(impl.OpCon, 1, num(3), v(0)))},
	}}
}

// twiceProgram calls a closure twice, and makes a list anew that is used twice.
func twiceProgram() impl.Program {
	twice := ex(impl.OpApply, 0, v(0), ex(impl.OpApply, 0, v(0), v(1)))
	both := let(ex(impl.OpCall, 1, ex(impl.OpClose, 2, list(3, 4)), list(1, 2, 5)), add(ex(impl.OpCall, 3, v(0)), ex(impl.OpCall, 3, v(0))))
	join := ex(impl.OpMatch, 1, v(1), v(0), ex(impl.OpCon, 1, v(2), ex(impl.OpCall, 2, v(0), v(3))))
	return impl.Program{Decls: append(lists(), arrow(1, 1)), Funcs: []impl.Func{
		{Body: both}, {Params: []int{2, 1}, Result: 1, Body: twice}, {Params: []int{1, 1}, Result: 1, Body: join}, {Params: []int{1}, Body: sumBody(3)},
	}}
}

// sameState reports whether two states are the same, which is asked often.
func sameState(a impl.State, b impl.State) bool {
	if a.Status != b.Status || a.Value != b.Value || a.Calls != b.Calls || a.Most != b.Most || !sameList(a.Out, b.Out) || len(a.Heap) != len(b.Heap) || len(a.Frames) != len(b.Frames) {
		return false
	}
	for i, c := range a.Heap {
		if c.Count != b.Heap[i].Count || c.Tag != b.Heap[i].Tag || !sameList(c.Fields, b.Heap[i].Fields) {
			return false
		}
	}
	for k, f := range a.Frames {
		if !sameFrame(f, b.Frames[k]) {
			return false
		}
	}
	return true
}

// sameFrame reports whether two frames are the same.
func sameFrame(a impl.Frame, b impl.Frame) bool {
	return a.Proc == b.Proc && a.At == b.At && a.Dst == b.Dst && sameList(a.Regs, b.Regs) && sameList(a.Own, b.Own) && sameList(a.Held, b.Held)
}

// sameList reports whether two lists are the same.
func sameList(a []int, b []int) bool {
	if len(a) != len(b) {
		return false
	}
	for i := range a {
		if a[i] != b[i] {
			return false
		}
	}
	return true
}

// A comparison must see what differs.
func TestStatesAreToldApart(t *testing.T) {
	_, s := waiting()
	for i, change := range []func(s *impl.State){
		func(s *impl.State) { s.Status = 1 }, func(s *impl.State) { s.Value = 1 }, func(s *impl.State) { s.Calls = 1 }, func(s *impl.State) { s.Most = 1 }, func(s *impl.State) { s.Out = s.Out[1:] }, func(s *impl.State) { s.Out[1] = 1 },
		func(s *impl.State) { s.Heap = s.Heap[1:] }, func(s *impl.State) { s.Heap[0].Count = 7 }, func(s *impl.State) { s.Heap[0].Tag = 7 }, func(s *impl.State) { s.Heap[1].Fields[1] = 7 }, func(s *impl.State) { s.Heap[1].Fields = nil },
		func(s *impl.State) { s.Frames = s.Frames[1:] }, func(s *impl.State) { s.Frames[1].Proc = 1 }, func(s *impl.State) { s.Frames[1].At = 7 }, func(s *impl.State) { s.Frames[1].Dst = 7 },
		func(s *impl.State) { s.Frames[0].Regs[5] = 7 }, func(s *impl.State) { s.Frames[0].Own[5] = 7 }, func(s *impl.State) { s.Frames[1].Held[0] = 7 }, func(s *impl.State) { s.Frames[1].Held = nil },
	} {
		other := copyState(s)
		if !sameState(s, other) {
			t.Errorf("a copy of %s is not the same", showState(s))
		}
		if change(&other); sameState(s, other) || sameState(other, s) {
			t.Errorf("the state with the change %d is the same", i)
		}
	}
}

// eachStep calls a function for each state of the runs of all walks, for those of the scenes, and for the ones after these.
func eachStep(t *testing.T, check func(im impl.Image, s impl.State, next impl.State)) {
	t.Helper()
	step := func(im impl.Image, s impl.State) impl.State {
		next, ok := impl.StepState(im, s)
		if !ok {
			t.Fatalf("StepState of %s fails", showState(s))
		}
		check(im, s, next)
		return next
	}
	for _, x := range scenes() {
		step(x.im, x.s)
	}
	for _, w := range walks() {
		s, _ := impl.StartState(w.im, w.most)
		for s.Status == impl.Running {
			s = step(w.im, s)
		}
		step(w.im, s)
	}
}

// someStates calls a function for states of the scenes and, less often, for those of the runs of all walks.
func someStates(check func(im impl.Image, s impl.State)) {
	for _, x := range scenes() {
		check(x.im, x.s)
	}
	for i, w := range walks() {
		s, _ := impl.StartState(w.im, w.most)
		check(w.im, s)
		for k := i % 5; s.Status == impl.Running; k += 3 {
			s, _ = impl.RunState(w.im, s, 1+k%7)
			check(w.im, s)
		}
	}
}

// moves reports whether a step executes an instruction.
func moves(s impl.State, next impl.State) bool {
	return s.Status == impl.Running && (next.Status == impl.Running || next.Status == impl.Done)
}

// The promises say little if the runs that they are tried with are all alike.
func TestWalksHaveAllInstructions(t *testing.T) {
	marks := make(map[string]int)
	states := 0
	for _, w := range walks() {
		if !impl.ValidImage(w.im) {
			t.Fatalf("the image %v is not valid", w.im)
		}
		s, ok := impl.StartState(w.im, w.most)
		for ; ok && s.Status == impl.Running; s, ok = impl.StepState(w.im, s) {
			marks[opName(nextIn(w.im, s).Op)]++
			states++
		}
		marks[statusOf(s.Status)]++
	}
	for _, op := range codeOps() {
		if marks[opName(op)] < 100 {
			t.Errorf("only %d instructions %s are executed", marks[opName(op)], opName(op))
		}
	}
	if marks["done"] < 100 || marks["spent"] < 100 || marks["fault"] < 100 || states > 200000 {
		t.Errorf("there are %d states, and %d runs are done, %d spent, and %d fail", states, marks["done"], marks["spent"], marks["fault"])
	}
}
