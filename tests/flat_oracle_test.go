package tests

import (
	"fmt"

	"loop.example/refcountml/impl"
)

// line is an instruction whose targets are names, or the place that has a name.
type line struct {
	x       impl.Instr
	label   string
	targets []string
}

// lister makes flat code in a second way: it writes lines with names first, and then replaces the names.
type lister struct {
	n     impl.Normal
	names int
}

// name returns a name that there is not yet.
func (m *lister) name() string {
	m.names++
	return fmt.Sprint("place", m.names)
}

// flatMeaning returns what Flatten should, without a limit for instructions.
func flatMeaning(n impl.Normal) impl.Image {
	out := impl.Image{Decls: n.Decls}
	for _, r := range n.Routines {
		m := &lister{n: n}
		lines := m.block(context{n, r.Params}, r.Body, nil)
		lines = append(lines, line{x: back(r.Body.Result)})
		p := impl.Proc{Params: r.Params, Lent: r.Lent, Result: r.Result, Code: resolved(lines), Regs: len(r.Params)}
		for _, x := range p.Code {
			for _, reg := range append([]int{x.Dst}, x.Args...) {
				p.Regs = max(p.Regs, 1+reg)
			}
		}
		out.Procs = append(out.Procs, p)
	}
	return out
}

// resolved returns the instructions of lines.
func resolved(lines []line) []impl.Instr {
	places := make(map[string]int)
	at := 0
	for _, l := range lines {
		if l.label != "" {
			places[l.label] = at
		} else {
			at++
		}
	}
	var out []impl.Instr
	for _, l := range lines {
		if l.label != "" {
			continue
		}
		for _, name := range l.targets {
			if l.x.Op == impl.OpSwitch {
				l.x.Jumps = append(l.x.Jumps, places[name])
			} else {
				l.x.Num = places[name]
			}
		}
		out = append(out, l.x)
	}
	return out
}

// block returns the lines of a block, in which fields has the fields of the matched variables that are no integers.
func (m *lister) block(c context, b impl.Block, fields map[int][]int) []line {
	var out []line
	for _, s := range b.Steps {
		dst := len(c.types)
		switch s.Op {
		case impl.OpDup, impl.OpDrop:
			out = append(out, line{x: in(s.Op, 0, s.Args[0])})
			continue
		case impl.OpOpen, impl.OpReuse:
			out = append(out, line{x: in(s.Op, 0, append([]int{s.Args[0]}, fields[s.Args[0]]...)...)})
			continue
		case impl.OpIf:
			out = append(out, m.choice(c, s, fields, impl.OpBranch)...)
		case impl.OpMatch:
			out = append(out, m.choice(c, s, fields, impl.OpSwitch)...)
		default:
			x := to(dst, s.Op, s.Num, s.Args...)
			x.Into = s.Into
			out = append(out, line{x: x})
		}
		c = c.with(c.defined(s))
	}
	return out
}

// choice returns the lines of a step with kids.
func (m *lister) choice(c context, s impl.Step, fields map[int][]int, op int) []line {
	end := m.name()
	first := line{x: in(op, s.Num, s.Args[0])}
	var rest []line
	for k, types := range c.fieldsAt(s) {
		begin := m.name()
		if op == impl.OpSwitch || k == 1 {
			first.targets = append(first.targets, begin)
		}
		rest = append(rest, line{label: begin})
		inner := make(map[int][]int)
		for v, list := range fields {
			inner[v] = list
		}
		if op == impl.OpSwitch {
			inner[s.Args[0]] = nil
		}
		for i, of := range types {
			rest = append(rest, line{x: load(len(c.types)+i, i, s.Args[0])})
			if of != 0 {
				inner[s.Args[0]] = append(inner[s.Args[0]], len(c.types)+i)
			}
		}
		rest = append(rest, m.block(c.with(types...), s.Kids[k], inner)...)
		rest = append(rest, line{x: move(len(c.types), s.Kids[k].Result)})
		if k < len(s.Kids)-1 {
			rest = append(rest, line{x: jump(0), targets: []string{end}})
		}
	}
	return append(append([]line{first}, rest...), line{label: end})
}

// runMeaning returns what the instructions of an image that is verified do, whatever its counts are.
func runMeaning(im impl.Image, most int) impl.Outcome {
	m := &oracle{}
	return m.meaning(most, func() thing { return m.proc(im, 0, nil) })
}

// proc executes the code of a procedure.
func (m *oracle) proc(im impl.Image, f int, args []thing) thing {
	regs := make([]thing, im.Procs[f].Regs)
	copy(regs, args)
	for at := 0; ; {
		x := im.Procs[f].Code[at]
		at++
		var given []thing
		for _, reg := range x.Args {
			given = append(given, regs[reg])
		}
		switch x.Op {
		case impl.OpDup, impl.OpDrop, impl.OpOpen, impl.OpReuse:
		case impl.OpMove:
			regs[x.Dst] = given[0]
		case impl.OpLoad:
			regs[x.Dst] = given[0].parts[x.Num]
		case impl.OpJump:
			at = x.Num
		case impl.OpBranch:
			if given[0].n == 0 {
				at = x.Num
			}
		case impl.OpSwitch:
			at = x.Jumps[arm(im.Decls, x.Num, given[0].n)]
		case impl.OpReturn:
			return given[0]
		case impl.OpTail:
			m.count()
			return m.proc(im, x.Num, given)
		case impl.OpCall:
			m.count()
			regs[x.Dst] = m.proc(im, x.Num, given)
		case impl.OpApply:
			m.count()
			regs[x.Dst] = m.proc(im, given[0].n, things(given[0].parts, given[1]))
		default:
			regs[x.Dst] = m.simple(x.Op, x.Num, given)
		}
	}
}

// imageFits reports whether an image is valid, in a second way.
func imageFits(im impl.Image) bool {
	p := impl.Program{Decls: im.Decls}
	for _, proc := range im.Procs {
		p.Funcs = append(p.Funcs, impl.Func{Params: proc.Params, Result: proc.Result})
	}
	if !impl.ValidSigs(p) {
		return false
	}
	for _, proc := range im.Procs {
		for i, v := range proc.Lent {
			if v < 0 || v >= len(proc.Params) || proc.Params[v] == 0 || i > 0 && v <= proc.Lent[i-1] {
				return false
			}
		}
		size := len(proc.Code)
		if size == 0 || size > 2000 || proc.Regs == 0 || proc.Regs > 2000 || proc.Regs < len(proc.Params) {
			return false
		}
		if op := opName(proc.Code[size-1].Op); op != "return" && op != "tail" {
			return false
		}
		for at := range proc.Code {
			if !instrFits(im, proc, at) {
				return false
			}
		}
	}
	return true
}

// instrFits reports whether an instruction is valid, in a second way.
func instrFits(im impl.Image, p impl.Proc, at int) bool {
	x := p.Code[at]
	for _, reg := range append([]int{x.Dst}, x.Args...) {
		if reg < 0 || reg >= p.Regs {
			return false
		}
	}
	for _, target := range x.Jumps {
		if target <= at || target >= len(p.Code) {
			return false
		}
	}
	later := x.Num > at && x.Num < len(p.Code)
	args, num, jumps, there := 1, x.Num == 0, 0, x.Num >= 0 && x.Num < len(im.Procs)
	switch opName(x.Op) {
	case "":
		return false
	case "int":
		args, num = 0, x.Num <= 999 && x.Num >= -999
	case "add", "sub", "mul", "less", "apply":
		args = 2
	case "con":
		args, num = len(impl.ConFields(im.Decls, x.Num)), impl.ConType(im.Decls, x.Num) >= 0
	case "call", "tail":
		if !there {
			return false
		}
		args, num = len(im.Procs[x.Num].Params), true
	case "close":
		if !there || len(im.Procs[x.Num].Lent) > 0 {
			return false
		}
		args, num = len(im.Procs[x.Num].Params)-1, true
	case "open", "reuse":
		args = max(1, min(4, len(x.Args)))
	case "load":
		num = x.Num >= 0 && x.Num <= 2
	case "branch":
		num = later
	case "jump":
		args, num = 0, later
	case "switch":
		jumps = len(impl.ConsOf(im.Decls, x.Num))
		num = jumps > 0
	}
	if x.Into != 0 && (opName(x.Op) != "con" || x.Into < 0 || x.Into > p.Regs) {
		return false
	}
	return num && len(x.Args) == args && len(x.Jumps) == jumps && (x.Dst == 0 || setting(x.Op))
}

// brings reports whether code from an index on only brings back what a register has, in a second way.
func brings(code []impl.Instr, at int, reg int) bool {
	x := code[at]
	switch opName(x.Op) {
	case "jump":
		return brings(code, x.Num, reg)
	case "move":
		return x.Args[0] == reg && brings(code, at+1, x.Dst)
	}
	return opName(x.Op) == "return" && x.Args[0] == reg
}

// tailMeaning returns what TailCalls should.
func tailMeaning(im impl.Image) impl.Image {
	out := copyImage(im)
	for f, p := range im.Procs {
		for at, x := range p.Code {
			if opName(x.Op) == "call" && brings(p.Code, at+1, x.Dst) {
				out.Procs[f].Code[at] = tailTo(x.Num, x.Args...)
			}
		}
	}
	return out
}

// reachedMeaning returns what ReachedCode should: it goes on until no more is found.
func reachedMeaning(code []impl.Instr) []int {
	found := map[int]bool{0: true}
	for size := 0; size < len(found); {
		size = len(found)
		for at, x := range code {
			if !found[at] {
				continue
			}
			switch opName(x.Op) {
			case "return", "tail":
			case "jump":
				found[x.Num] = true
			case "branch":
				found[x.Num] = true
				found[at+1] = true
			case "switch":
				for _, target := range x.Jumps {
					found[target] = true
				}
			default:
				found[at+1] = true
			}
		}
	}
	var out []int
	for at := range code {
		if found[at] {
			out = append(out, at)
		}
	}
	return out
}
