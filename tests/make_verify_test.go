package tests

import (
	"sync"
	"testing"

	"loop.example/refcountml/impl"
)

// editor changes images in places of which it knows what is known there, so that many of them stay verified.
type editor struct {
	maker
	im impl.Image
	f  int
	at int
	k  knowledge
}

// regs returns the registers of the procedure of which something holds.
func (m *editor) regs(holds func(r int) bool) []int {
	var out []int
	for r := 0; r < m.im.Procs[m.f].Regs; r++ {
		if holds(r) {
			out = append(out, r)
		}
	}
	return out
}

// some returns one of the registers of which something holds, or any one, if there is none, and at times.
func (m *editor) some(holds func(r int) bool) int {
	if list := m.regs(holds); len(list) > 0 && m.pick(20) > 0 {
		return m.pickOf(list)
	}
	return m.pick(m.im.Procs[m.f].Regs)
}

// spare returns a register that can be set.
func (m *editor) spare() int {
	return m.some(func(r int) bool { return m.k.owned[r] == 0 })
}

// unused returns a register that can be set, and of which nothing is known, mostly.
func (m *editor) unused() int {
	return m.some(func(r int) bool { _, ok := m.k.types[r]; return !ok && m.k.owned[r] == 0 })
}

// heap returns a register that is alive and has a type other than 0.
func (m *editor) heap() int {
	return m.some(func(r int) bool { return m.k.types[r] > 0 && m.k.alive(r) })
}

// ofType returns a register that has a type, and is alive, if that is not 0.
func (m *editor) ofType(t int) int {
	return m.some(func(r int) bool { of, ok := m.k.types[r]; return ok && of == t && (t == 0 || m.k.alive(r)) })
}

// matched returns a register of which the constructor is known.
func (m *editor) matched() int {
	return m.some(func(r int) bool { _, ok := m.k.cons[r]; return ok && m.k.alive(r) })
}

// later returns the index of an instruction that comes after a place at which one is put in.
func (m *editor) later() int {
	rest := len(m.im.Procs[m.f].Code) - m.at
	return m.at + 1 + m.pick(min(rest, 1+m.pick(4)))
}

// choosing returns an OpSwitch instruction, whose targets are mostly the same.
func (m *editor) choosing() impl.Instr {
	r := m.some(func(r int) bool { return m.k.alive(r) && len(impl.ConsOf(m.im.Decls, m.k.types[r])) > 0 })
	of := m.k.types[r]
	x := jumping(of, r)
	for range impl.ConsOf(m.im.Decls, of) {
		x.Jumps = append(x.Jumps, []int{m.at + 1, m.at + 1, m.later()}[m.pick(3)])
	}
	return x
}

// apart returns instructions that take a register apart, and give what comes out of it up again.
func (m *editor) apart(op int) []impl.Instr {
	r := m.matched()
	fields := impl.ConFields(m.im.Decls, m.k.cons[r])
	x := in(op, 0, r)
	var args []int
	var drops []impl.Instr
	for k, of := range fields {
		field := m.some(func(reg int) bool { p, ok := m.k.from[reg]; return ok && p == origin{r, k} })
		args = append(args, field)
		if of != 0 {
			x.Args = append(x.Args, field)
			drops = append(drops, in(impl.OpDrop, 0, field))
		}
	}
	out := []impl.Instr{in(impl.OpDup, 0, r), x}
	if op == impl.OpReuse {
		dst := m.unused()
		made := intoOf(r, conTo(dst, m.k.cons[r], args...))
		return append(out, made, in(impl.OpDrop, 0, dst))
	}
	return append(out, drops...)
}

// given returns instructions that give arguments of some types, which are made owned before, to another one, and its result up.
func (m *editor) given(x impl.Instr, types []int, lent []int, gives int) []impl.Instr {
	var out []impl.Instr
	for k, of := range types {
		r := m.ofType(of)
		x.Args = append(x.Args, r)
		if of != 0 && !has(lent, k) && m.pick(12) > 0 {
			out = append(out, in(impl.OpDup, 0, r))
		}
	}
	if out = append(out, x); gives != 0 && m.pick(12) > 0 {
		out = append(out, in(impl.OpDrop, 0, x.Dst))
	}
	return out
}

// walked returns instructions that load a field, and then a field of this into the same register, for one of the constructors that it may have.
func (m *editor) walked() []impl.Instr {
	r := m.matched()
	dst := m.unused()
	for k, of := range impl.ConFields(m.im.Decls, m.k.cons[r]) {
		x := jumping(of, dst)
		field := 0
		for _, con := range impl.ConsOf(m.im.Decls, of) {
			// The targets are those for one instruction alone, and the last two of these are put in, too.
			target := m.at + 1
			if fields := impl.ConFields(m.im.Decls, con); len(fields) > 0 && m.pick(4) > 0 {
				target = m.at
				field = m.pick(len(fields))
			}
			x.Jumps = append(x.Jumps, target)
		}
		if len(x.Jumps) > 0 {
			return []impl.Instr{load(dst, k, r), x, load(dst, field, dst)}
		}
	}
	return []impl.Instr{to(dst, impl.OpInt, 1)}
}

// news returns some instructions that may have no effect on what comes after them.
func (m *editor) news() []impl.Instr {
	decls := m.im.Decls
	switch m.pick(17) {
	case 0:
		r := m.heap()
		return []impl.Instr{in(impl.OpDup, 0, r), in(impl.OpDrop, 0, r)}
	case 1:
		dst := m.spare()
		if m.pick(3) == 0 {
			dst = m.some(func(r int) bool { return m.k.lent[r] })
		}
		return []impl.Instr{to(dst, impl.OpInt, m.pick(1999)-999)}
	case 2:
		r := m.matched()
		fields := max(1, len(impl.ConFields(decls, m.k.cons[r])))
		return []impl.Instr{load([]int{m.unused(), m.spare(), r}[m.pick(3)], m.pick(fields), r)}
	case 3:
		r := m.some(func(r int) bool { return m.k.owned[r] == 1 })
		return []impl.Instr{move(r, r)}
	case 4:
		r := m.heap()
		dst := m.unused()
		return []impl.Instr{in(impl.OpDup, 0, r), move(dst, r), in(impl.OpDrop, 0, dst)}
	case 5:
		return []impl.Instr{move(m.spare(), m.ofType(0))}
	case 6, 7:
		return []impl.Instr{m.choosing()}
	case 8:
		return []impl.Instr{branch(m.later(), m.ofType(0))}
	case 9:
		return m.apart(impl.OpOpen)
	case 10:
		return m.apart(impl.OpReuse)
	case 11:
		if all := impl.ConCount(decls); all > 0 {
			c := m.pick(all)
			return m.given(conTo(m.unused(), c), impl.ConFields(decls, c), nil, 1)
		}
	case 12:
		g := m.pick(len(m.im.Procs))
		p := m.im.Procs[g]
		return m.given(callTo(m.unused(), g), p.Params, p.Lent, p.Result)
	case 13:
		if g := m.pick(len(m.im.Procs)); len(m.im.Procs[g].Params) > 0 && len(m.im.Procs[g].Lent) == 0 {
			params := m.im.Procs[g].Params
			return m.given(closeTo(m.unused(), g), params[:len(params)-1], nil, 1)
		}
	case 14:
		r := m.some(func(r int) bool { t := m.k.types[r]; return t > 0 && len(decls[t-1].Cons) == 0 && m.k.alive(r) })
		if of := m.k.types[r]; of > 0 {
			return m.given(to(m.unused(), impl.OpApply, 0), []int{of, decls[of-1].From}, nil, decls[of-1].To)
		}
	case 15:
		return m.walked()
	}
	r := m.ofType(0)
	return []impl.Instr{to(m.spare(), impl.OpAdd+m.pick(4), 0, r, m.ofType(0)), printTo(m.spare(), r)}
}

// insert puts instructions in before that at a place; jumps to it lead to the first one of these.
func (m *editor) insert(code []impl.Instr, news []impl.Instr) []impl.Instr {
	by := len(news)
	moved := func(target int) int {
		if target > m.at {
			return target + by
		}
		return target
	}
	var out []impl.Instr
	for at, x := range code {
		if at == m.at {
			for _, one := range news {
				one = copyInstr(one)
				for i, target := range one.Jumps {
					one.Jumps[i] = target + by - 1
				}
				if one.Op == impl.OpBranch {
					one.Num += by - 1
				}
				out = append(out, one)
			}
		}
		x = copyInstr(x)
		for i, target := range x.Jumps {
			x.Jumps[i] = moved(target)
		}
		if x.Op == impl.OpBranch || x.Op == impl.OpJump {
			x.Num = moved(x.Num)
		}
		out = append(out, x)
	}
	return out
}

// edited returns an image of its own with a change at some place.
func (m *editor) edited() impl.Image {
	out := copyImage(m.im)
	code := out.Procs[m.f].Code
	x := &code[m.at]
	switch m.pick(8) {
	case 0:
		// An argument becomes another register, mostly of the same type.
		if len(x.Args) > 0 {
			k := m.pick(len(x.Args))
			of := m.k.types[x.Args[k]]
			x.Args[k] = m.ofType(of)
		}
	case 1:
		if setting(x.Op) {
			x.Dst = m.spare()
		}
	case 2:
		// The instruction is left out, but for jumps, which would leave nothing behind.
		if !has([]int{impl.OpBranch, impl.OpSwitch, impl.OpJump, impl.OpReturn, impl.OpTail}, x.Op) {
			*x = jump(m.at + 1)
		}
	case 3:
		if x.Op == impl.OpBranch || x.Op == impl.OpJump {
			x.Num = min(len(code)-1, m.later())
		}
		for k := range x.Jumps {
			x.Jumps[k] = min(len(code)-1, m.later())
		}
	default:
		out.Procs[m.f].Code = m.insert(code, m.news())
	}
	return out
}

// editions returns images that are changed step by step; those that are verified are changed further.
func editions(base impl.Image, seed int, many int) []impl.Image {
	m := &editor{maker: maker{seed: seed}, im: copyImage(base)}
	for f := range m.im.Procs {
		m.im.Procs[f].Regs += m.pick(4)
	}
	var out []impl.Image
	for range many {
		m.f = m.pick(len(m.im.Procs))
		m.at = m.pick(len(m.im.Procs[m.f].Code))
		before, _ := verifyMeaning(m.im, m.f)
		k, ok := before[m.at]
		if !ok {
			k = knowledge{}.copy()
		}
		m.k = k
		other := m.edited()
		if !imageFits(other) {
			continue
		}
		out = append(out, other)
		if verifies(other) || m.pick(10) == 0 {
			m.im = other
		}
	}
	return out
}

// baseImages returns verified images that are changed.
func baseImages() []impl.Image {
	out := programImages()
	for i, im := range flatImages() {
		if i%14 == 0 {
			out = append(out, im)
		} else if i%14 == 7 {
			tail, _ := impl.TailCalls(im)
			out = append(out, tail)
		}
	}
	return out
}

// editedImages returns images that are changed, made only once.
var editedImages = sync.OnceValue(makeEditedImages)

// makeEditedImages makes them.
func makeEditedImages() []impl.Image {
	var out []impl.Image
	for i, im := range baseImages() {
		out = append(out, editions(im, 7000+i, 12)...)
	}
	return out
}

// verifiedImages returns verified images of all kinds, made only once.
var verifiedImages = sync.OnceValue(makeVerifiedImages)

// makeVerifiedImages makes them.
func makeVerifiedImages() []impl.Image {
	out := baseImages()
	for _, im := range append(append([]impl.Image{}, images()...), editedImages()...) {
		if verifies(im) {
			out = append(out, im)
		}
	}
	return out
}

// The promises say little if the verified images that they are tried with are all alike.
func TestVerifiedImagesAreOfAllKinds(t *testing.T) {
	marks := make(map[string]int)
	for _, im := range editedImages() {
		if !impl.ValidImage(im) {
			t.Fatalf("the image %v is not valid", im)
		}
		if verifies(im) {
			marks["verified"]++
		} else {
			marks["not verified"]++
			continue
		}
		for f, p := range im.Procs {
			before, _ := verifyMeaning(im, f)
			reached := reachedMeaning(p.Code)
			for at, x := range p.Code {
				k, known := before[at]
				switch {
				case !has(reached, at):
					marks["code that is never reached"]++
					continue
				case !known:
					marks["code that no constructor reaches"]++
					continue
				}
				marks[opName(x.Op)]++
				markKnown(k, x, marks)
			}
		}
	}
	for _, op := range codeOps() {
		if marks[opName(op)] < 200 {
			t.Errorf("only %d instructions %s are verified", marks[opName(op)], opName(op))
		}
	}
	for _, what := range []string{"verified", "not verified", "code that is never reached", "code that no constructor reaches", "register is set that others are loaded from", "owned twice", "kept across an instruction", "switch on a known constructor"} {
		if marks[what] < 100 {
			t.Errorf("only %d times: %s", marks[what], what)
		}
	}
	if marks["load into itself"] < 30 || marks["lent register is set"] < 30 {
		t.Errorf("%d loads are into the register that they come from, and %d lent registers are set", marks["load into itself"], marks["lent register is set"])
	}
}

// markKnown marks what is special about an instruction where something is known.
func markKnown(k knowledge, x impl.Instr, marks map[string]int) {
	if x.Op == impl.OpLoad && x.Dst == x.Args[0] {
		marks["load into itself"]++
	}
	if setting(x.Op) && k.lent[x.Dst] {
		marks["lent register is set"]++
	}
	for _, p := range k.from {
		if setting(x.Op) && p.reg == x.Dst {
			marks["register is set that others are loaded from"]++
		}
	}
	for _, own := range k.owned {
		if own > 1 {
			marks["owned twice"]++
		}
	}
	if len(k.kept) > 0 && x.Op != impl.OpCon {
		marks["kept across an instruction"]++
	}
	if _, ok := k.cons[append(x.Args, 0)[0]]; ok && x.Op == impl.OpSwitch {
		marks["switch on a known constructor"]++
	}
}
