package tests

import "loop.example/refcountml/impl"

// thing is a value of the second evaluator: integers have no parts.
type thing struct {
	n     int
	parts []thing
}

// oracle is a second evaluator, which leaves an evaluation that is cut off by a panic.
type oracle struct {
	p    impl.Program
	n    impl.Normal
	left int
	o    impl.Outcome
}

// cutOff is what it panics with.
type cutOff struct{}

// meaning returns what Eval and its like should for the value that a function brings.
func (m *oracle) meaning(most int, bring func() thing) (out impl.Outcome) {
	m.left = most
	defer func() {
		if r := recover(); r != nil {
			if _, ok := r.(cutOff); !ok {
				panic(r)
			}
			out = impl.Outcome{Status: impl.Spent, Calls: most, Out: m.o.Out}
		}
	}()
	m.o.Value = bring().n
	m.o.Calls = most - m.left
	return m.o
}

// exprMeaning returns what EvalExpr should.
func exprMeaning(p impl.Program, x impl.Expr, most int) impl.Outcome {
	m := &oracle{p: p}
	return m.meaning(most, func() thing { return m.expr(nil, x) })
}

// normalMeaning returns what EvalNormal should.
func normalMeaning(n impl.Normal, most int) impl.Outcome {
	m := &oracle{n: n}
	return m.meaning(most, func() thing { return m.block(nil, n.Routines[0].Body) })
}

// things returns a list of its own with further things.
func things(list []thing, more ...thing) []thing {
	var out []thing
	out = append(out, list...)
	return append(out, more...)
}

// count takes one of the calls that are left.
func (m *oracle) count() {
	if m.left == 0 {
		panic(cutOff{})
	}
	m.left--
}

// limited returns a number, or the limit that it is beyond.
func limited(n int) int {
	return max(-999, min(999, n))
}

// simple returns what an operation gives that neither binds nor chooses nor calls.
func (m *oracle) simple(op int, n int, args []thing) thing {
	switch op {
	case impl.OpInt:
		return thing{n: n}
	case impl.OpAdd:
		return thing{n: limited(args[0].n + args[1].n)}
	case impl.OpSub:
		return thing{n: limited(args[0].n - args[1].n)}
	case impl.OpMul:
		return thing{n: limited(args[0].n * args[1].n)}
	case impl.OpLess:
		if args[0].n < args[1].n {
			return thing{n: 1}
		}
		return thing{}
	case impl.OpPrint:
		m.o.Out = append(m.o.Out, args[0].n)
		return thing{n: args[0].n}
	}
	return thing{n: n, parts: args}
}

// arm returns the place of a constructor among those of its type.
func arm(decls []impl.Decl, t int, c int) int {
	for k, of := range impl.ConsOf(decls, t) {
		if of == c {
			return k
		}
	}
	return -1
}

// expr evaluates an expression.
func (m *oracle) expr(env []thing, e impl.Expr) thing {
	switch e.Op {
	case impl.OpVar:
		return env[e.Num]
	case impl.OpLet:
		return m.expr(things(env, m.expr(env, e.Kids[0])), e.Kids[1])
	case impl.OpIf:
		if m.expr(env, e.Kids[0]).n == 0 {
			return m.expr(env, e.Kids[2])
		}
		return m.expr(env, e.Kids[1])
	case impl.OpMatch:
		x := m.expr(env, e.Kids[0])
		return m.expr(things(env, x.parts...), e.Kids[1+arm(m.p.Decls, e.Num, x.n)])
	}
	var args []thing
	for _, kid := range e.Kids {
		args = append(args, m.expr(env, kid))
	}
	switch e.Op {
	case impl.OpCall:
		m.count()
		return m.expr(args, m.p.Funcs[e.Num].Body)
	case impl.OpApply:
		m.count()
		return m.expr(things(args[0].parts, args[1]), m.p.Funcs[args[0].n].Body)
	}
	return m.simple(e.Op, e.Num, args)
}

// block executes a block.
func (m *oracle) block(env []thing, b impl.Block) thing {
	env = things(env)
	for _, s := range b.Steps {
		if s.Op < impl.OpDup {
			env = append(env, m.step(env, s))
		}
	}
	return env[b.Result]
}

// step executes a step.
func (m *oracle) step(env []thing, s impl.Step) thing {
	var args []thing
	for _, v := range s.Args {
		args = append(args, env[v])
	}
	switch s.Op {
	case impl.OpIf:
		if args[0].n == 0 {
			return m.block(env, s.Kids[1])
		}
		return m.block(env, s.Kids[0])
	case impl.OpMatch:
		return m.block(things(env, args[0].parts...), s.Kids[arm(m.n.Decls, s.Num, args[0].n)])
	case impl.OpCall:
		m.count()
		return m.block(args, m.n.Routines[s.Num].Body)
	case impl.OpApply:
		m.count()
		return m.block(things(args[0].parts, args[1]), m.n.Routines[args[0].n].Body)
	}
	return m.simple(s.Op, s.Num, args)
}
