package tests

import (
	"fmt"
	"strings"
	"sync"
	"testing"

	"loop.example/refcountml/impl"
)

// opName returns the name of the operation of an instruction; "" if instructions do not have it.
func opName(op int) string {
	names := []string{"int", "add", "sub", "mul", "less", "print", "con", "", "", "call", "close", "apply", "", "", "dup", "drop", "open", "reuse", "move", "load", "branch", "switch", "jump", "return", "tail"}
	if op < 0 || op >= len(names) {
		return ""
	}
	return names[op]
}

// codeOps returns the operations that instructions have.
func codeOps() []int {
	var out []int
	for op := 0; op <= impl.OpTail; op++ {
		if opName(op) != "" {
			out = append(out, op)
		}
	}
	return out
}

// setting reports whether instructions with an operation set a register.
func setting(op int) bool {
	switch opName(op) {
	case "int", "add", "sub", "mul", "less", "print", "con", "call", "close", "apply", "move", "load":
		return true
	}
	return false
}

// numbered reports whether the Num of instructions with an operation can be another one than 0.
func numbered(op int) bool {
	switch opName(op) {
	case "int", "con", "call", "close", "load", "branch", "switch", "jump", "tail":
		return true
	}
	return false
}

// showInstr returns the text of an instruction.
func showInstr(x impl.Instr) string {
	var out strings.Builder
	if setting(x.Op) || x.Dst != 0 {
		fmt.Fprintf(&out, "%d=", x.Dst)
	}
	fmt.Fprint(&out, opName(x.Op))
	if numbered(x.Op) || x.Num != 0 {
		fmt.Fprint(&out, x.Num)
	}
	if x.Into != 0 {
		fmt.Fprintf(&out, "into%d", x.Into)
	}
	fmt.Fprintf(&out, "(%s)", strings.Trim(fmt.Sprint(x.Args), "[]"))
	if len(x.Jumps) > 0 {
		fmt.Fprintf(&out, "{%s}", strings.Trim(fmt.Sprint(x.Jumps), "[]"))
	}
	return out.String()
}

// showCode returns the text of code.
func showCode(code []impl.Instr) string {
	var out []string
	for _, x := range code {
		out = append(out, showInstr(x))
	}
	return strings.Join(out, " ")
}

// in returns an instruction that sets no register.
func in(op int, n int, args ...int) impl.Instr {
	return impl.Instr{Op: op, Num: n, Args: args}
}

// to returns an instruction that sets a register.
func to(dst int, op int, n int, args ...int) impl.Instr {
	return impl.Instr{Op: op, Dst: dst, Num: n, Args: args}
}

// jumping returns an OpSwitch instruction.
func jumping(n int, arg int, jumps ...int) impl.Instr {
	return impl.Instr{Op: impl.OpSwitch, Num: n, Args: []int{arg}, Jumps: jumps}
}

// move, load, branch, jump and back are instructions that only flat code has.
func move(dst int, from int) impl.Instr        { return to(dst, impl.OpMove, 0, from) }
func load(dst int, n int, of int) impl.Instr   { return to(dst, impl.OpLoad, n, of) }
func branch(target int, by int) impl.Instr     { return in(impl.OpBranch, target, by) }
func jump(target int) impl.Instr               { return in(impl.OpJump, target) }
func back(from int) impl.Instr                 { return in(impl.OpReturn, 0, from) }
func tailTo(f int, args ...int) impl.Instr     { return in(impl.OpTail, f, args...) }
func callTo(d, f int, args ...int) impl.Instr  { return to(d, impl.OpCall, f, args...) }
func printTo(dst int, from int) impl.Instr     { return to(dst, impl.OpPrint, 0, from) }
func conTo(d, n int, args ...int) impl.Instr   { return to(d, impl.OpCon, n, args...) }
func closeTo(d, f int, args ...int) impl.Instr { return to(d, impl.OpClose, f, args...) }

// imageOf returns an image with the signatures of ruleForm, in which the procedure 3 has some code, and all others only return.
// Its procedures have six registers, and the procedures 1 and 3 have two parameters, of which the first one is lent only to the procedure 1.
func imageOf(code ...impl.Instr) impl.Image {
	out := impl.Image{Decls: ruleForm(nil, nil, block(0, one)).Decls}
	out.Procs = []impl.Proc{
		{Regs: 6, Code: []impl.Instr{to(0, impl.OpInt, 0), back(0)}},
		{Params: []int{1, 1}, Lent: []int{0}, Result: 1, Regs: 6, Code: []impl.Instr{back(1)}},
		{Params: []int{1}, Result: 1, Regs: 6, Code: []impl.Instr{back(0)}},
		{Params: []int{1, 1}, Result: 1, Regs: 6, Code: code},
	}
	return out
}

// copyInstr returns an instruction of its own.
func copyInstr(x impl.Instr) impl.Instr {
	x.Args = append([]int{}, x.Args...)
	x.Jumps = append([]int{}, x.Jumps...)
	return x
}

// copyImage returns an image of its own.
func copyImage(im impl.Image) impl.Image {
	out := impl.Image{}
	for _, d := range im.Decls {
		one := impl.Decl{From: d.From, To: d.To}
		for _, c := range d.Cons {
			one.Cons = append(one.Cons, impl.Con{Fields: append([]int{}, c.Fields...)})
		}
		out.Decls = append(out.Decls, one)
	}
	for _, p := range im.Procs {
		one := impl.Proc{Params: append([]int{}, p.Params...), Lent: append([]int{}, p.Lent...), Result: p.Result, Regs: p.Regs}
		for _, x := range p.Code {
			one.Code = append(one.Code, copyInstr(x))
		}
		out.Procs = append(out.Procs, one)
	}
	return out
}

// changedImage returns an image of its own with a change.
func changedImage(im impl.Image, change func(im *impl.Image)) impl.Image {
	out := copyImage(im)
	change(&out)
	return out
}

// withInstr returns an image with another instruction.
func withInstr(im impl.Image, f int, at int, x impl.Instr) impl.Image {
	return changedImage(im, func(im *impl.Image) { im.Procs[f].Code[at] = x })
}

// coder makes valid images that are the code of no normal form.
type coder struct {
	maker
	im impl.Image
}

// image returns a valid image with some signatures.
func (m *coder) image(sigs impl.Program) impl.Image {
	m.im = impl.Image{Decls: sigs.Decls}
	for _, f := range sigs.Funcs {
		p := impl.Proc{Params: f.Params, Result: f.Result, Regs: max(1, len(f.Params)) + m.pick(4)}
		for v, t := range f.Params {
			if t != 0 && m.pick(3) == 0 {
				p.Lent = append(p.Lent, v)
			}
		}
		m.im.Procs = append(m.im.Procs, p)
	}
	for f, p := range m.im.Procs {
		last := m.pick(16)
		var code []impl.Instr
		for at := 0; at < last; at++ {
			code = append(code, m.instr(p.Regs, at, last))
		}
		m.im.Procs[f].Code = append(code, m.leaving(p.Regs))
	}
	return m.im
}

// regs returns some registers.
func (m *coder) regs(regs int, many int) []int {
	var out []int
	for k := 0; k < many; k++ {
		out = append(out, m.pick(regs))
	}
	return out
}

// leaving returns an instruction for the end of code.
func (m *coder) leaving(regs int) impl.Instr {
	if m.pick(4) > 0 {
		return back(m.pick(regs))
	}
	f := m.pick(len(m.im.Procs))
	return tailTo(f, m.regs(regs, len(m.im.Procs[f].Params))...)
}

// after returns the index of an instruction that comes after that at an index, and not after the last one.
func (m *coder) after(at int, last int) int {
	return at + 1 + m.pick(last-at)
}

// instr returns an instruction that is not the last one.
func (m *coder) instr(regs int, at int, last int) impl.Instr {
	switch m.pick(12) {
	case 0, 1:
		f := m.pick(len(m.im.Procs))
		return callTo(m.pick(regs), f, m.regs(regs, len(m.im.Procs[f].Params))...)
	case 2, 3:
		return move(m.pick(regs), m.pick(regs))
	case 4:
		return jump(m.after(at, last))
	case 5:
		return m.leaving(regs)
	case 6:
		return branch(m.after(at, last), m.pick(regs))
	case 7:
		return m.naming(regs, at, last)
	case 8:
		return in(impl.OpDup+m.pick(2), 0, m.pick(regs))
	case 9:
		return in(impl.OpOpen+m.pick(2), 0, m.regs(regs, 1+m.pick(4))...)
	case 10:
		return load(m.pick(regs), m.pick(3), m.pick(regs))
	}
	return m.counting(regs)
}

// naming returns an instruction that names a constructor, a type or a procedure, if there is one.
func (m *coder) naming(regs int, at int, last int) impl.Instr {
	if of := 1 + m.pick(4); m.pick(3) > 0 && len(impl.ConsOf(m.im.Decls, of)) > 0 {
		x := jumping(of, m.pick(regs))
		for range impl.ConsOf(m.im.Decls, of) {
			x.Jumps = append(x.Jumps, m.after(at, last))
		}
		return x
	}
	if f := m.pick(len(m.im.Procs)); m.pick(2) == 0 && len(m.im.Procs[f].Params) > 0 && len(m.im.Procs[f].Lent) == 0 {
		return closeTo(m.pick(regs), f, m.regs(regs, len(m.im.Procs[f].Params)-1)...)
	}
	if all := impl.ConCount(m.im.Decls); all > 0 {
		c := m.pick(all)
		x := conTo(m.pick(regs), c, m.regs(regs, len(impl.ConFields(m.im.Decls, c)))...)
		x.Into = m.pick(regs + 1)
		return x
	}
	return m.counting(regs)
}

// counting returns an instruction on integers, or OpApply.
func (m *coder) counting(regs int) impl.Instr {
	switch m.pick(4) {
	case 0:
		return to(m.pick(regs), impl.OpInt, m.pick(1999)-999)
	case 1:
		return printTo(m.pick(regs), m.pick(regs))
	case 2:
		return to(m.pick(regs), impl.OpApply, 0, m.regs(regs, 2)...)
	}
	return to(m.pick(regs), impl.OpAdd+m.pick(4), 0, m.regs(regs, 2)...)
}

// flatImages returns the images of balanced normal forms, made only once.
var flatImages = sync.OnceValue(makeFlatImages)

// makeFlatImages makes them.
func makeFlatImages() []impl.Image {
	var out []impl.Image
	for _, n := range balancedVariants() {
		if im, ok := impl.Flatten(n); ok {
			out = append(out, im)
		}
	}
	return out
}

// images returns valid images, those of normal forms and others, made only once.
var images = sync.OnceValue(makeImages)

// makeImages makes them.
func makeImages() []impl.Image {
	out := append([]impl.Image{}, flatImages()...)
	for i, sigs := range signatures() {
		for seed := 0; seed < 300; seed++ {
			m := &coder{maker: maker{seed: 9000*i + seed}}
			out = append(out, m.image(sigs))
		}
	}
	return out
}

// eachCode calls a function for the code of each procedure of each valid image.
func eachCode(check func(im impl.Image, f int, code []impl.Instr)) {
	for _, im := range images() {
		for f, p := range im.Procs {
			check(im, f, p.Code)
		}
	}
}

// The promises say little if the images that they are tried with are all alike.
func TestImagesHaveAllInstructions(t *testing.T) {
	marks := make(map[int]int)
	tails, lent, unreached := 0, 0, 0
	eachCode(func(im impl.Image, f int, code []impl.Instr) {
		lent += len(im.Procs[f].Lent)
		reached := reachedMeaning(code)
		for at, x := range code {
			marks[x.Op]++
			if x.Into != 0 {
				marks[-1]++
			}
			if x.Op == impl.OpCall && brings(code, at+1, x.Dst) {
				tails++
			}
			if !has(reached, at) {
				unreached++
			}
		}
	})
	for _, op := range append(codeOps(), -1) {
		if marks[op] < 100 {
			t.Errorf("only %d instructions have the operation %d", marks[op], op)
		}
	}
	if tails < 300 || lent < 300 || unreached < 300 {
		t.Errorf("only %d calls can be tail calls, %d parameters are lent, and %d instructions are not reached", tails, lent, unreached)
	}
}

// oddNumber returns a number that is close to another one, or far from it.
func (m *maker) oddNumber(near int) int {
	switch m.pick(8) {
	case 0:
		return m.pickOf(oddNumbers())
	case 1, 2:
		return near + 1
	case 3, 4:
		return near - 1
	}
	return m.pick(8) - 1
}

// withNumber returns a list of its own with a change.
func (m *maker) withNumber(list []int) []int {
	out := append([]int{}, list...)
	switch k := m.pick(len(out) + 1); {
	case k == len(out) || m.pick(4) == 0:
		return append(out, m.pick(4))
	case m.pick(3) == 0:
		return out[:k]
	default:
		out[k] = m.oddNumber(out[k])
	}
	return out
}

// spoilt returns an image of its own with a change, which may leave it valid.
func (m *maker) spoilt(im impl.Image) impl.Image {
	out := copyImage(im)
	p := &out.Procs[m.pick(len(out.Procs))]
	x := &p.Code[m.pick(len(p.Code))]
	switch m.pick(12) {
	case 0, 1:
		x.Op = m.pick(27) - 1
	case 2, 3:
		x.Num = m.oddNumber(x.Num)
	case 4:
		x.Dst = m.oddNumber(x.Dst)
	case 5:
		x.Into = m.oddNumber(x.Into)
	case 6, 7:
		x.Args = m.withNumber(x.Args)
	case 8:
		x.Jumps = m.withNumber(x.Jumps)
	case 9:
		p.Regs = m.oddNumber(p.Regs)
	case 10:
		p.Code = p.Code[:m.pick(len(p.Code)+1)]
	case 11:
		m.spoilSignature(&out)
	}
	return out
}

// spoilSignature changes something in the declarations or the signatures of an image.
func (m *maker) spoilSignature(im *impl.Image) {
	p := &im.Procs[m.pick(len(im.Procs))]
	switch m.pick(6) {
	case 0:
		p.Params = m.withNumber(p.Params)
	case 1:
		p.Lent = m.withNumber(p.Lent)
	case 2:
		p.Result = m.oddNumber(p.Result)
	case 3:
		im.Procs = im.Procs[:m.pick(len(im.Procs)+1)]
	case 4:
		im.Decls = im.Decls[:m.pick(len(im.Decls)+1)]
	case 5:
		im.Decls = append(im.Decls, arrow(m.pick(5)-1, m.pick(5)-1))
	}
}
