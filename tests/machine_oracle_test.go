package tests

import "loop.example/refcountml/impl"

// copyState returns a state of its own.
func copyState(s impl.State) impl.State {
	s.Out = append([]int{}, s.Out...)
	s.Heap = copyCells(s.Heap)
	frames := s.Frames
	s.Frames = nil
	for _, f := range frames {
		f.Regs = append([]int{}, f.Regs...)
		f.Own = append([]int{}, f.Own...)
		f.Held = append([]int{}, f.Held...)
		s.Frames = append(s.Frames, f)
	}
	return s
}

// statusOf returns the name of a status; "" if there is none.
func statusOf(status int) string {
	if status < 0 || status > 3 {
		return ""
	}
	return []string{"done", "spent", "fault", "running"}[status]
}

// stateFits reports whether a state of a valid image is valid, in a second way.
func stateFits(im impl.Image, s impl.State) bool {
	ended := statusOf(s.Status) == "done"
	if !imageFits(im) || statusOf(s.Status) == "" || ended != (len(s.Frames) == 0) || !ended && s.Value != 0 {
		return false
	}
	if s.Most < 0 || s.Most > 40 || s.Calls < 0 || s.Calls > s.Most || len(s.Frames) > 1+s.Calls || !heapFits(s.Heap) {
		return false
	}
	for _, n := range append([]int{s.Value}, s.Out...) {
		if n > 999 || n < -999 {
			return false
		}
	}
	counts, held := refsMeaning(s.Heap), make(map[int]int)
	for k, f := range s.Frames {
		if f.Proc < 0 || f.Proc >= len(im.Procs) {
			return false
		}
		p := im.Procs[f.Proc]
		if f.At < 0 || f.At >= len(p.Code) || len(f.Regs) != p.Regs || len(f.Own) != p.Regs || len(f.Held) != p.Regs {
			return false
		}
		if k == 0 && f.Dst != 0 || k > 0 && (f.Dst < 0 || f.Dst >= len(s.Frames[k-1].Regs) || s.Frames[k-1].Own[f.Dst] != 0) {
			return false
		}
		for r := range p.Regs {
			w, own := f.Regs[r], f.Own[r]
			points := w >= 1000 && w-1000 < len(s.Heap) && s.Heap[w-1000].Count > 0
			if w < -999 || w > 999 && w < 1000 || own < 0 || own > 999999 || own > 0 && !points {
				return false
			}
			counts[w-1000] += own
			held[f.Held[r]]++
		}
	}
	for i, c := range s.Heap {
		if c.Count > 0 && counts[i] != c.Count || c.Count == -1 && held[1000+i] != 1 {
			return false
		}
		if c.Count == -1 {
			delete(held, 1000+i)
		}
	}
	delete(held, 0)
	return len(held) == 0
}

// cannot is what the second machine panics with if an instruction cannot be executed.
type cannot struct{}

// hand is a second machine: it does what an instruction does, and gives up where that cannot be.
type hand struct {
	im impl.Image
	s  impl.State
	x  impl.Instr
}

// stepMeaning returns what StepState should.
func stepMeaning(im impl.Image, s impl.State) (out impl.State) {
	out = copyState(s)
	if statusOf(s.Status) != "running" {
		return out
	}
	m := &hand{im: im, s: copyState(s)}
	m.x = im.Procs[m.top().Proc].Code[m.top().At]
	name := opName(m.x.Op)
	if (name == "call" || name == "tail" || name == "apply") && s.Calls == s.Most {
		out.Status = impl.Spent
		return out
	}
	defer func() {
		if r := recover(); r != nil {
			if _, ok := r.(cannot); !ok {
				panic(r)
			}
			out.Status = impl.Fault
		}
	}()
	m.consume(name)
	m.need(!setting(m.x.Op) || m.top().Own[m.x.Dst] == 0)
	m.top().At++
	m.do(name)
	for len(m.s.Heap) > 0 && m.s.Heap[len(m.s.Heap)-1].Count == 0 {
		m.s.Heap = m.s.Heap[:len(m.s.Heap)-1]
	}
	for _, c := range m.s.Heap {
		m.need(c.Count <= 999999)
	}
	return m.s
}

// top returns the innermost frame.
func (m *hand) top() *impl.Frame {
	return &m.s.Frames[len(m.s.Frames)-1]
}

// need gives up unless something holds.
func (m *hand) need(holds bool) {
	if !holds {
		panic(cannot{})
	}
}

// arg returns the word of an argument.
func (m *hand) arg(k int) int {
	return m.top().Regs[m.x.Args[k]]
}

// args returns the words of the arguments from one on.
func (m *hand) args(from int) []int {
	var out []int
	for k := range m.x.Args[from:] {
		out = append(out, m.arg(from+k))
	}
	return out
}

// integer returns the word of an argument that must be an integer.
func (m *hand) integer(k int) int {
	m.need(m.arg(k) < 1000)
	return m.arg(k)
}

// isLent reports whether an argument of a call is lent.
func (m *hand) isLent(name string, k int) bool {
	return (name == "call" || name == "tail") && has(m.im.Procs[m.x.Num].Lent, k)
}

// consume consumes what an instruction consumes.
func (m *hand) consume(name string) {
	many := len(m.x.Args)
	switch name {
	case "open", "reuse":
		many = 1
	case "drop", "con", "close", "call", "tail", "apply", "move", "return":
	default:
		many = 0
	}
	for k := range many {
		if m.arg(k) < 1000 || m.isLent(name, k) {
			continue
		}
		own := &m.top().Own[m.x.Args[k]]
		*own--
		m.need(*own >= 0)
	}
}

// cell returns the live cell to which the first argument points.
func (m *hand) cell() *impl.Cell {
	i := m.arg(0) - 1000
	m.need(i >= 0 && i < len(m.s.Heap) && m.s.Heap[i].Count > 0)
	return &m.s.Heap[i]
}

// give sets the register that an instruction sets to a word, which has a reference if it should.
func (m *hand) give(f *impl.Frame, dst int, w int, referred bool) {
	f.Regs[dst], f.Own[dst] = w, 0
	if referred && w >= 1000 {
		f.Own[dst] = 1
	}
}

// do does what an instruction does.
func (m *hand) do(name string) {
	f, x := m.top(), m.x
	switch name {
	case "int":
		m.give(f, x.Dst, x.Num, false)
	case "add":
		m.give(f, x.Dst, limited(m.integer(0)+m.integer(1)), false)
	case "sub":
		m.give(f, x.Dst, limited(m.integer(0)-m.integer(1)), false)
	case "mul":
		m.give(f, x.Dst, limited(m.integer(0)*m.integer(1)), false)
	case "less":
		a, b := m.integer(0), m.integer(1)
		m.give(f, x.Dst, 0, false)
		if a < b {
			f.Regs[x.Dst] = 1
		}
	case "print":
		m.s.Out = append(m.s.Out, m.integer(0))
		m.give(f, x.Dst, m.arg(0), false)
	case "con":
		m.give(f, x.Dst, m.make(x.Num), true)
	case "close":
		m.give(f, x.Dst, m.make(impl.ConCount(m.im.Decls)+x.Num), true)
	case "dup":
		m.cell().Count++
		f.Own[x.Args[0]]++
	case "drop":
		m.need(m.arg(0) >= 1000)
		m.s.Heap = dropMeaning(m.s.Heap, m.arg(0))
	case "open", "reuse":
		m.open(name)
	case "move":
		m.give(f, x.Dst, m.arg(0), true)
	case "load":
		m.need(len(m.cell().Fields) > x.Num)
		m.give(f, x.Dst, m.cell().Fields[x.Num], false)
	case "branch":
		if m.integer(0) == 0 {
			f.At = x.Num
		}
	case "jump":
		f.At = x.Num
	case "switch":
		m.need(has(impl.ConsOf(m.im.Decls, x.Num), m.cell().Tag))
		f.At = x.Jumps[arm(m.im.Decls, x.Num, m.cell().Tag)]
	case "call":
		m.enter(x.Num, m.args(0), x.Dst)
	case "tail":
		words, dst := m.args(0), f.Dst
		m.checkLent()
		m.leave()
		m.enter(x.Num, words, dst)
	case "apply":
		m.apply()
	case "return":
		w, dst := m.arg(0), f.Dst
		m.leave()
		if len(m.s.Frames) > 0 {
			m.give(m.top(), dst, w, true)
			return
		}
		m.need(w < 1000)
		m.s.Status, m.s.Value = impl.Done, w
	}
}

// make makes a live cell with the words of the arguments, and returns the pointer to it.
func (m *hand) make(tag int) int {
	words := m.args(0)
	if m.x.Into > 0 && m.top().Held[m.x.Into-1] != 0 {
		held := &m.top().Held[m.x.Into-1]
		w := *held
		*held = 0
		m.need(len(m.s.Heap[w-1000].Fields) == len(words))
		m.s.Heap[w-1000] = live(1, tag, words...)
		return w
	}
	h, w := impl.AllocCell(m.s.Heap, tag, words)
	m.s.Heap = h
	return w
}

// apart takes the cell of the first argument apart, and reports whether nothing else referred to it.
func (m *hand) apart() bool {
	c := m.cell()
	if c.Count--; c.Count == 0 {
		*c = free()
		return true
	}
	for _, w := range c.Fields {
		if w >= 1000 {
			m.s.Heap[w-1000].Count++
		}
	}
	return false
}

// open takes the cell of the first argument apart for further ones.
func (m *hand) open(name string) {
	var inside []int
	for _, w := range m.cell().Fields {
		if w >= 1000 {
			inside = append(inside, w)
		}
	}
	m.need(same(inside, m.args(1)...))
	held := &m.top().Held[m.x.Args[0]]
	m.need(name == "open" || *held == 0)
	many := len(m.cell().Fields)
	if m.apart() && name == "reuse" {
		*held = m.arg(0)
		m.s.Heap[*held-1000] = keep(many)
	}
	for _, r := range m.x.Args[1:] {
		m.top().Own[r]++
	}
}

// apply takes a closure apart and calls its procedure.
func (m *hand) apply() {
	c := *m.cell()
	g := c.Tag - impl.ConCount(m.im.Decls)
	m.need(g >= 0 && g < len(m.im.Procs))
	m.need(len(m.im.Procs[g].Lent) == 0 && len(m.im.Procs[g].Params) == 1+len(c.Fields))
	words := append(append([]int{}, c.Fields...), m.arg(1))
	m.apart()
	m.enter(g, words, m.x.Dst)
}

// leave leaves the innermost frame, which must own and hold nothing.
func (m *hand) leave() {
	for r, own := range m.top().Own {
		m.need(own == 0 && m.top().Held[r] == 0)
	}
	m.s.Frames = m.s.Frames[:len(m.s.Frames)-1]
}

// checkLent gives up if a lent pointer does not point to a live cell.
func (m *hand) checkLent() {
	for k := range m.x.Args {
		if i := m.arg(k) - 1000; m.isLent(opName(m.x.Op), k) && i >= 0 {
			m.need(i < len(m.s.Heap) && m.s.Heap[i].Count > 0)
		}
	}
}

// enter adds a frame of a procedure.
func (m *hand) enter(g int, words []int, dst int) {
	if opName(m.x.Op) == "call" {
		m.checkLent()
	}
	p := m.im.Procs[g]
	f := impl.Frame{Proc: g, Dst: dst, Regs: make([]int, p.Regs), Own: make([]int, p.Regs), Held: make([]int, p.Regs)}
	for k, w := range words {
		m.give(&f, k, w, !has(p.Lent, k))
	}
	m.s.Calls++
	m.s.Frames = append(m.s.Frames, f)
}

// liveMeaning returns what LiveRegs should: it looks for a way to an instruction that uses a register before it is set.
func liveMeaning(p impl.Proc, at int) []int {
	var out []int
	for r := range p.Regs {
		if usedOnAWay(p.Code, at, r, make(map[int]bool)) {
			out = append(out, r)
		}
	}
	return out
}

// usedOnAWay reports whether a register is used from an instruction on before it is set; where it was asked before, there is no need to go again.
func usedOnAWay(code []impl.Instr, at int, r int, asked map[int]bool) bool {
	if asked[at] {
		return false
	}
	asked[at] = true
	x := code[at]
	name := opName(x.Op)
	if has(x.Args, r) && name != "dup" && name != "drop" {
		return true
	}
	if setting(x.Op) && x.Dst == r {
		return false
	}
	switch name {
	case "return", "tail":
		return false
	case "jump":
		return usedOnAWay(code, x.Num, r, asked)
	case "branch":
		return usedOnAWay(code, x.Num, r, asked) || usedOnAWay(code, at+1, r, asked)
	case "switch":
		for _, target := range x.Jumps {
			if usedOnAWay(code, target, r, asked) {
				return true
			}
		}
		return false
	}
	return usedOnAWay(code, at+1, r, asked)
}

// neededMeaning returns what NeededCells should.
func neededMeaning(im impl.Image, s impl.State) []int {
	marks := make(map[int]bool)
	for k, f := range s.Frames {
		for _, r := range liveMeaning(im.Procs[f.Proc], f.At) {
			if k == len(s.Frames)-1 || s.Frames[k+1].Dst != r {
				reachMeaning(s.Heap, f.Regs[r:r+1], marks)
			}
		}
	}
	return marked(marks, len(s.Heap))
}

// statsMeaning returns what StatsOf should: it looks at each state of a run.
func statsMeaning(im impl.Image, most int) impl.Stats {
	var out impl.Stats
	s, _ := impl.StartState(im, most)
	for {
		kept, alive := 0, 0
		for _, c := range s.Heap {
			if c.Count > 0 {
				alive++
			} else if c.Count == -1 {
				kept++
			}
			out.Shared = max(out.Shared, c.Count)
		}
		out.Peak, out.Depth = max(out.Peak, alive), max(out.Depth, len(s.Frames))
		if statusOf(s.Status) != "running" {
			return out
		}
		f := s.Frames[len(s.Frames)-1]
		x := im.Procs[f.Proc].Code[f.At]
		next, _ := impl.StepState(im, s)
		out.Steps++
		if statusOf(next.Status) == "spent" || statusOf(next.Status) == "fault" {
			s = next
			continue
		}
		keptThen := 0
		for _, c := range next.Heap {
			if c.Count == -1 {
				keptThen++
			}
		}
		switch opName(x.Op) {
		case "con", "close":
			if keptThen < kept {
				out.Reuses++
			} else {
				out.Allocs++
			}
		case "dup":
			out.Dups++
		case "drop":
			out.Drops++
		}
		s = next
	}
}
