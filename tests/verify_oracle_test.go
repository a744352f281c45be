package tests

import "loop.example/refcountml/impl"

// origin is the field of a register from which another one is loaded.
type origin struct {
	reg   int
	field int
}

// knowledge is what a second way to verify knows before an instruction: what is not known of a register is not in the maps.
type knowledge struct {
	types map[int]int
	cons  map[int]int
	from  map[int]origin
	lent  map[int]bool
	owned map[int]int
	kept  map[int]int
}

// copied returns a map of its own.
func copied[V any](old map[int]V) map[int]V {
	out := make(map[int]V)
	for r, x := range old {
		out[r] = x
	}
	return out
}

// copy returns knowledge of its own.
func (k knowledge) copy() knowledge {
	return knowledge{copied(k.types), copied(k.cons), copied(k.from), copied(k.lent), copied(k.owned), copied(k.kept)}
}

// shared returns what all of some maps have.
func shared[V comparable](all []knowledge, of func(k knowledge) map[int]V) map[int]V {
	out := copied(of(all[0]))
	for _, k := range all[1:] {
		for r, x := range out {
			if other, ok := of(k)[r]; !ok || other != x {
				delete(out, r)
			}
		}
	}
	return out
}

// joined returns what is known from all of some ways, and whether these own and keep the same.
func joined(all []knowledge) (knowledge, bool) {
	out := knowledge{
		shared(all, func(k knowledge) map[int]int { return k.types }), shared(all, func(k knowledge) map[int]int { return k.cons }), shared(all, func(k knowledge) map[int]origin { return k.from }),
		shared(all, func(k knowledge) map[int]bool { return k.lent }), shared(all, func(k knowledge) map[int]int { return k.owned }), shared(all, func(k knowledge) map[int]int { return k.kept }),
	}
	for _, k := range all {
		if len(k.owned) != len(out.owned) || len(k.kept) != len(out.kept) {
			return knowledge{}, false
		}
		for r := range k.types {
			if _, ok := out.types[r]; !ok {
				delete(out.cons, r)
				delete(out.from, r)
			}
		}
	}
	return out, true
}

// alive reports whether a register is alive: it is found by going on until no more are.
func (k knowledge) alive(r int) bool {
	found := make(map[int]bool)
	for reg := range k.owned {
		found[reg] = true
	}
	for reg := range k.lent {
		found[reg] = true
	}
	for size := -1; size < len(found); {
		size = len(found)
		for reg, p := range k.from {
			if found[p.reg] {
				found[reg] = true
			}
		}
	}
	return found[r]
}

// checker goes through the instructions of a procedure in a second way; it gives up where one asks for something that does not hold.
type checker struct {
	im impl.Image
	p  impl.Proc
	knowledge
}

// need gives up unless something holds.
func (c *checker) need(holds bool) {
	if !holds {
		panic(cannot{})
	}
}

// take makes a register owned once less.
func (c *checker) take(r int) {
	c.need(c.owned[r] > 0)
	if c.owned[r]--; c.owned[r] == 0 {
		delete(c.owned, r)
	}
}

// typeOf returns the type of a register, which must be known.
func (c *checker) typeOf(r int) int {
	of, ok := c.types[r]
	c.need(ok)
	return of
}

// set sets a register.
func (c *checker) set(r int, of int, owned bool) {
	c.need(c.owned[r] == 0)
	delete(c.cons, r)
	delete(c.from, r)
	delete(c.lent, r)
	for reg, p := range c.from {
		if p.reg == r {
			delete(c.from, reg)
		}
	}
	if c.types[r] = of; owned && of != 0 {
		c.owned[r] = 1
	}
}

// asked returns the types that an instruction asks its arguments to have, and the type of what it gives.
func (c *checker) asked(x impl.Instr) (args []int, gives int) {
	switch opName(x.Op) {
	case "int":
		return nil, 0
	case "add", "sub", "mul", "less":
		return []int{0, 0}, 0
	case "print", "branch":
		return []int{0}, 0
	case "con":
		return impl.ConFields(c.im.Decls, x.Num), impl.ConType(c.im.Decls, x.Num)
	case "call", "tail":
		return c.im.Procs[x.Num].Params, c.im.Procs[x.Num].Result
	case "close":
		params := c.im.Procs[x.Num].Params
		last := len(params) - 1
		of := impl.ArrowOf(c.im.Decls, params[last], c.im.Procs[x.Num].Result)
		c.need(of > 0)
		return params[:last], of
	case "apply":
		of := c.typeOf(x.Args[0])
		c.need(of > 0 && len(c.im.Decls[of-1].Cons) == 0)
		return []int{of, c.im.Decls[of-1].From}, c.im.Decls[of-1].To
	case "return":
		return []int{c.p.Result}, c.p.Result
	}
	of := c.typeOf(x.Args[0])
	return []int{of}, of
}

// do goes through an instruction.
func (c *checker) do(x impl.Instr) {
	switch opName(x.Op) {
	case "jump":
	case "dup":
		c.need(c.typeOf(x.Args[0]) != 0 && c.alive(x.Args[0]))
		c.owned[x.Args[0]]++
	case "drop":
		c.need(c.typeOf(x.Args[0]) != 0)
		c.take(x.Args[0])
	case "open", "reuse":
		c.open(x)
	case "load":
		fields := c.fieldsOf(x.Args[0])
		c.need(c.alive(x.Args[0]) && x.Num < len(fields))
		c.set(x.Dst, fields[x.Num], false)
		if x.Dst != x.Args[0] {
			c.from[x.Dst] = origin{x.Args[0], x.Num}
		}
	case "switch":
		c.need(c.typeOf(x.Args[0]) == x.Num && c.alive(x.Args[0]))
	default:
		c.give(x)
	}
}

// fieldsOf returns the types of the fields of a register, whose constructor must be known.
func (c *checker) fieldsOf(r int) []int {
	con, ok := c.cons[r]
	c.need(ok)
	return impl.ConFields(c.im.Decls, con)
}

// open goes through an instruction that takes a register apart.
func (c *checker) open(x impl.Instr) {
	r := x.Args[0]
	fields := c.fieldsOf(r)
	further := x.Args[1:]
	c.take(r)
	for k, of := range fields {
		if of == 0 {
			continue
		}
		c.need(len(further) > 0)
		p, ok := c.from[further[0]]
		c.need(ok && p == origin{r, k})
		c.owned[further[0]]++
		further = further[1:]
	}
	c.need(len(further) == 0)
	if opName(x.Op) == "reuse" {
		_, ok := c.kept[r]
		c.need(!ok)
		c.kept[r] = len(fields)
	}
}

// give goes through an instruction that gives its arguments away.
func (c *checker) give(x impl.Instr) {
	name := opName(x.Op)
	want, gives := c.asked(x)
	var lent []int
	for k, r := range x.Args {
		c.need(c.typeOf(r) == want[k])
	}
	for k, r := range x.Args {
		if (name == "call" || name == "tail") && has(c.im.Procs[x.Num].Lent, k) {
			lent = append(lent, r)
		} else if want[k] != 0 {
			c.take(r)
		}
	}
	for _, r := range lent {
		c.need(c.alive(r))
	}
	if x.Into > 0 {
		n, ok := c.kept[x.Into-1]
		c.need(ok && n == len(x.Args))
		delete(c.kept, x.Into-1)
	}
	if name == "return" || name == "tail" {
		c.need(len(c.owned) == 0 && len(c.kept) == 0 && gives == c.p.Result)
	}
	if setting(x.Op) {
		c.set(x.Dst, gives, true)
	}
}

// bring calls a function for each instruction that may come after one, with what is known on the way there.
func (c *checker) bring(x impl.Instr, at int, to func(at int, k knowledge)) {
	switch opName(x.Op) {
	case "return", "tail":
	case "jump":
		to(x.Num, c.copy())
	case "branch":
		to(at+1, c.copy())
		to(x.Num, c.copy())
	case "switch":
		for k, con := range impl.ConsOf(c.im.Decls, x.Num) {
			known, ok := c.cons[x.Args[0]]
			if ok && known != con {
				continue
			}
			way := c.copy()
			way.cons[x.Args[0]] = con
			to(x.Jumps[k], way)
		}
	default:
		to(at+1, c.copy())
	}
}

// verifyMeaning returns what is known before each instruction of a procedure of a valid image that is reached, and whether the procedure should be verified.
func verifyMeaning(im impl.Image, f int) (before map[int]knowledge, ok bool) {
	before = make(map[int]knowledge)
	defer func() {
		if r := recover(); r != nil {
			if _, is := r.(cannot); !is {
				panic(r)
			}
			ok = false
		}
	}()
	p := im.Procs[f]
	first := knowledge{}.copy()
	for v, of := range p.Params {
		first.types[v] = of
		if has(p.Lent, v) {
			first.lent[v] = true
		} else if of != 0 {
			first.owned[v] = 1
		}
	}
	arrives := map[int][]knowledge{0: {first}}
	for at, x := range p.Code {
		if len(arrives[at]) == 0 {
			continue
		}
		c := &checker{im: im, p: p}
		var fine bool
		c.knowledge, fine = joined(arrives[at])
		c.need(fine)
		before[at] = c.copy()
		c.do(x)
		c.bring(x, at, func(next int, k knowledge) { arrives[next] = append(arrives[next], k) })
	}
	return before, true
}

// verifies reports whether all procedures of a valid image should be verified.
func verifies(im impl.Image) bool {
	for f := range im.Procs {
		if _, ok := verifyMeaning(im, f); !ok {
			return false
		}
	}
	return true
}

// numbersKnown returns what a map knows of some registers, and another number for those of which it knows nothing.
func numbersKnown(known map[int]int, regs int, other int) []int {
	var out []int
	for r := 0; r < regs; r++ {
		n, ok := known[r]
		if !ok {
			n = other
		}
		out = append(out, n)
	}
	return out
}
