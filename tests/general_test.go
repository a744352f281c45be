package tests

import (
	"reflect"
	"testing"

	"loop.example/refcountml/impl"
)

// constant is a constant of the package, and the value that the specification gives it.
type constant struct {
	name  string
	value int
	want  int
}

func TestConstants(t *testing.T) {
	for _, c := range append(limits(), operations()...) {
		if c.value != c.want {
			t.Errorf("%s = %d, want %d", c.name, c.value, c.want)
		}
	}
}

// limits returns the constants that are no operations.
func limits() []constant {
	return []constant{
		{"MaxDecls", impl.MaxDecls, 4}, {"MaxCons", impl.MaxCons, 3}, {"MaxFields", impl.MaxFields, 3}, {"MaxFuncs", impl.MaxFuncs, 4},
		{"MaxParams", impl.MaxParams, 3}, {"MaxNodes", impl.MaxNodes, 30}, {"MaxInt", impl.MaxInt, 999}, {"MaxVars", impl.MaxVars, 99},
		{"MaxCalls", impl.MaxCalls, 40}, {"MaxSteps", impl.MaxSteps, 600}, {"MaxCode", impl.MaxCode, 2000}, {"MaxTag", impl.MaxTag, 99},
		{"MaxCount", impl.MaxCount, 999999}, {"MaxRun", impl.MaxRun, 100000}, {"MaxFlags", impl.MaxFlags, 255}, {"MaxLines", impl.MaxLines, 20},
		{"FlagFold", impl.FlagFold, 1}, {"FlagKnown", impl.FlagKnown, 2}, {"FlagLend", impl.FlagLend, 4}, {"FlagLate", impl.FlagLate, 8},
		{"FlagCancel", impl.FlagCancel, 16}, {"FlagOpen", impl.FlagOpen, 32}, {"FlagReuse", impl.FlagReuse, 64}, {"FlagTail", impl.FlagTail, 128},
		{"Done", impl.Done, 0}, {"Spent", impl.Spent, 1}, {"Fault", impl.Fault, 2}, {"Running", impl.Running, 3}, {"PointerBase", impl.PointerBase, 1000},
	}
}

// operations returns the operations of expressions, steps and instructions.
func operations() []constant {
	return []constant{
		{"OpInt", impl.OpInt, 0}, {"OpAdd", impl.OpAdd, 1}, {"OpSub", impl.OpSub, 2}, {"OpMul", impl.OpMul, 3}, {"OpLess", impl.OpLess, 4},
		{"OpPrint", impl.OpPrint, 5}, {"OpCon", impl.OpCon, 6}, {"OpIf", impl.OpIf, 7}, {"OpMatch", impl.OpMatch, 8}, {"OpCall", impl.OpCall, 9},
		{"OpClose", impl.OpClose, 10}, {"OpApply", impl.OpApply, 11}, {"OpVar", impl.OpVar, 12}, {"OpLet", impl.OpLet, 13}, {"OpDup", impl.OpDup, 14},
		{"OpDrop", impl.OpDrop, 15}, {"OpOpen", impl.OpOpen, 16}, {"OpReuse", impl.OpReuse, 17}, {"OpMove", impl.OpMove, 18}, {"OpLoad", impl.OpLoad, 19},
		{"OpBranch", impl.OpBranch, 20}, {"OpSwitch", impl.OpSwitch, 21}, {"OpJump", impl.OpJump, 22}, {"OpReturn", impl.OpReturn, 23}, {"OpTail", impl.OpTail, 24},
	}
}

// answers returns, as texts, what all functions of programs and expressions return for some arguments.
func answers(p impl.Program, vars []int, e impl.Expr) []string {
	normal, fine := impl.Normalize(p)
	out := []string{
		text(impl.ValidTypes(p.Decls)), text(impl.ConCount(p.Decls)), text(impl.Inhabited(p.Decls)), text(impl.NodesOf(e)),
		text(impl.ValidSigs(p)), text(impl.ValidProgram(p)), text(impl.TypeOf(p, vars, e)), text(impl.CallsOf(p)), text(normal), text(fine),
	}
	for n := -1; n <= 5; n++ {
		moved, ok := impl.Shift(e, n, 2)
		whole, good := impl.Eval(p, n)
		part, well := impl.EvalExpr(p, e, n)
		out = append(out,
			text(impl.ConType(p.Decls, n)), text(impl.ConFields(p.Decls, n)), text(impl.ConsOf(p.Decls, n)), text(impl.ArrowOf(p.Decls, n, 0)),
			text(impl.CalleesOf(p, n)), text(impl.ReachedFrom(p, n)), text(impl.FreeOf(e, n)), text(impl.MentionsOf(e, n)),
			text(moved), text(ok), text(impl.UnusedParams(p, n)), text(whole), text(good), text(part), text(well),
		)
	}
	return out
}

// blockAnswers returns, as texts, what all functions of normal forms and blocks return for some arguments.
func blockAnswers(n impl.Normal, vars []int, b impl.Block) []string {
	plain, ok := impl.PlainOf(n)
	out := []string{text(impl.StepsOf(b)), text(impl.BlockType(n, vars, b)), text(impl.ValidNormal(n)), text(plain), text(ok)}
	for k := -1; k <= 5; k++ {
		o, fine := impl.EvalNormal(n, k)
		out = append(out, text(o), text(fine), text(impl.UsedIn(b, k)), text(impl.UsedFrom(b, 9, k)), text(impl.UsesOf(b, k)), text(impl.LastUse(b, k)))
	}
	return out
}

// countAnswers returns, as texts, what all functions that count or check counts return for a normal form.
func countAnswers(n impl.Normal) []string {
	counted, fine := impl.Count(n)
	late, well := impl.CountLate(n)
	less, good := impl.Cancel(n)
	out := []string{
		text(impl.IsPlain(n)), text(counted), text(fine), text(impl.CountsOf(n)), text(impl.Balanced(n)),
		text(late), text(well), text(less), text(good), text(impl.Saved(n)),
	}
	for _, r := range rewriters() {
		other, ok := r.of(n)
		out = append(out, text(other), text(ok))
	}
	for f := -1; f <= 4; f++ {
		out = append(out, text(impl.BalancedRoutine(n, f)), text(impl.OwnedAfter(n, f, f)), text(impl.AliveAfter(n, f, 1)), text(impl.KeptAfter(n, f, f)), text(impl.KeptAfter(n, f, 1)))
	}
	return out
}

// rewriters returns the functions that make other normal forms of some.
func rewriters() []rewriter {
	return []rewriter{specialize, expand, reusing, borrowing, unlending}
}

func TestCountsChangeNothing(t *testing.T) {
	var all []impl.Normal
	all = append(append(append(all, plains()...), balancedForms()...), badSignatures()[:5]...)
	for i := 0; i < len(all); i += 4 {
		n := all[i]
		before := text(n)
		first := countAnswers(n)
		countAnswers(all[(i+7)%len(all)])
		if second := countAnswers(n); text(second) != text(first) {
			t.Fatalf("other answers at the second time for %v", n)
		}
		if text(n) != before {
			t.Fatalf("the argument is changed: %s", before)
		}
	}
}

func TestCallsChangeNothing(t *testing.T) {
	m := maker{seed: 5}
	all := append(programs(), badSigs()...)
	for i, p := range all {
		vars := []int{0, 1, 2}[:i%4]
		e := m.raw(i % 5)
		before := text(p) + text(vars) + text(e)
		first := answers(p, vars, e)
		answers(all[(i+7)%len(all)], nil, num(1))
		if second := answers(p, vars, e); text(second) != text(first) {
			t.Fatalf("other answers at the second time for %v, %v, %v", p, vars, e)
		}
		if text(p)+text(vars)+text(e) != before {
			t.Fatalf("arguments changed: %s", before)
		}
	}
}

func TestCallsOnNormalFormsChangeNothing(t *testing.T) {
	all := append(normals(), badSignatures()[:5]...)
	blocks := rawBlocks()[6:]
	for i, n := range all {
		vars := []int{0, 1, 2}[:i%4]
		b := blocks[i%len(blocks)]
		before := text(n) + text(vars) + text(b)
		first := blockAnswers(n, vars, b)
		blockAnswers(all[(i+7)%len(all)], nil, block(0))
		if second := blockAnswers(n, vars, b); text(second) != text(first) {
			t.Fatalf("other answers at the second time for %v, %v, %s", n, vars, show(b))
		}
		if text(n)+text(vars)+text(b) != before {
			t.Fatalf("arguments changed: %s", before)
		}
	}
}

// piece is a piece of memory that a list has, with its spare capacity.
type piece struct {
	from uintptr
	to   uintptr
}

// piecesOf returns the memory of all lists in a value, the one of each list alone.
func piecesOf(x reflect.Value) []piece {
	var out []piece
	switch x.Kind() {
	case reflect.Struct:
		for i := range x.NumField() {
			out = append(out, piecesOf(x.Field(i))...)
		}
	case reflect.Slice:
		if size := uintptr(x.Cap()) * x.Type().Elem().Size(); size > 0 {
			out = append(out, piece{x.Pointer(), x.Pointer() + size})
		}
		for i := range x.Len() {
			out = append(out, piecesOf(x.Index(i))...)
		}
	}
	return out
}

// overlap reports whether two lists of an answer share memory, or one of an answer and one of an argument.
func overlap(answer any, arguments any) bool {
	mine := piecesOf(reflect.ValueOf(answer))
	for i, a := range mine {
		for _, b := range append(mine[i+1:], piecesOf(reflect.ValueOf(arguments))...) {
			if a.from < b.to && b.from < a.to {
				return true
			}
		}
	}
	return false
}

// A test of memory must see what shares some.
func TestOverlapsAreFound(t *testing.T) {
	numbers := make([]int, 3, 8)
	one := impl.Con{Fields: numbers[:1:1]}
	two := impl.Con{Fields: numbers[1:2:2]}
	spare := impl.Con{Fields: numbers[:1]}
	if overlap(one, two) || overlap([]impl.Con{one, two}, nil) || overlap(impl.Con{}, impl.Con{}) {
		t.Error("overlaps are found where there are none")
	}
	if !overlap(one, one) || !overlap(spare, two) || !overlap([]impl.Con{one, one}, nil) || !overlap([]impl.Con{spare, two}, nil) {
		t.Error("overlaps are not found")
	}
}

func TestNormalFormsAreNewMemory(t *testing.T) {
	for _, p := range runs() {
		n, _ := impl.Normalize(p)
		if overlap(n, p) {
			t.Fatalf("Normalize(%v) shares memory", p)
		}
	}
	for _, n := range normals() {
		plain, _ := impl.PlainOf(n)
		if overlap(plain, n) {
			t.Fatalf("PlainOf(%v) shares memory", n)
		}
	}
	// Equal parts of an argument that are in the same memory must not be so in the answer.
	body := ex(impl.OpIf, 0, num(1), num(2), num(3))
	p := impl.Program{Decls: []impl.Decl{dataOf([]int{0}), dataOf([]int{0})}, Funcs: []impl.Func{{Body: add(body, body)}, {Params: []int{0}, Body: body}, {Body: body}}}
	p.Decls[1] = p.Decls[0]
	p.Funcs[2].Params = p.Funcs[1].Params
	n, _ := impl.Normalize(p)
	if overlap(n, p) {
		t.Error("Normalize of a program with parts in the same memory shares memory")
	}
	twice := doubledBlock(3)
	lent := []int{0}
	n = impl.Normal{Decls: lists(), Routines: []impl.Routine{{Body: block(0, st(impl.OpInt, 1))}, {Params: []int{0}, Body: twice}, {Params: []int{1}, Lent: lent, Result: 1}, {Params: []int{1}, Lent: lent, Result: 1}}}
	plain, ok := impl.PlainOf(n)
	if !ok || overlap(plain, n) {
		t.Error("PlainOf a normal form with parts in the same memory shares memory")
	}
}

func TestUsesAndPrintedNumbersAreNewMemory(t *testing.T) {
	for _, b := range rawBlocks() {
		first, second := impl.UsedIn(b, 20), impl.UsedFrom(b, 20, 0)
		if overlap(first, b) || overlap(second, b) || overlap(first, second) {
			t.Fatalf("UsedIn(%s) shares memory", show(b))
		}
	}
	for _, p := range runs() {
		n := normalOf(t, p)
		first, _ := impl.Eval(p, 40)
		second, _ := impl.Eval(p, 40)
		third, _ := impl.EvalNormal(n, 40)
		if overlap([]impl.Outcome{first, second, third}, n) {
			t.Fatalf("outcomes of %v share memory", p)
		}
	}
}

func TestCountedFormsAreNewMemory(t *testing.T) {
	for _, n := range plains() {
		counted, late := countedOf(t, n), lateOf(t, n)
		if overlap([]impl.Normal{counted, late}, n) {
			t.Fatalf("Count or CountLate(%v) shares memory", n)
		}
	}
	for i, n := range balancedForms() {
		if i%4 > 0 {
			continue
		}
		if less := cancelOf(t, n); overlap(less, n) {
			t.Fatalf("Cancel(%v) shares memory", n)
		}
		for f := range n.Routines {
			if overlap([][]int{impl.OwnedAfter(n, f, 0), impl.AliveAfter(n, f, 0), impl.OwnedAfter(n, f, 1), impl.KeptAfter(n, f, 0), impl.KeptAfter(n, f, 1), impl.CountsOf(n), impl.CountsOf(n)}, n) {
				t.Fatalf("the numbers of %v share memory", n)
			}
		}
	}
	// Equal parts of an argument that are in the same memory must not be so in the answer.
	lent, params := []int{0}, []int{1, 1}
	arm, kid := block(0, st(impl.OpInt, 1)), block(2, st(impl.OpCall, 1, 1, 1))
	arms := block(2, match(1, 1, arm, arm))
	n := impl.Normal{Decls: lists(), Routines: []impl.Routine{
		{Body: arm}, {Params: params, Lent: lent, Result: 1, Body: arms}, {Params: params, Lent: lent, Result: 1, Body: arms}, {Params: []int{0, 1}, Result: 1, Body: block(2, if0(0, kid, kid))},
	}}
	counted, late := countedOf(t, n), lateOf(t, n)
	if overlap([]impl.Normal{counted, late, cancelOf(t, counted), cancelOf(t, late)}, n) {
		t.Error("Count, CountLate or Cancel of a normal form with parts in the same memory shares memory")
	}
}

func TestRewrittenFormsAreNewMemory(t *testing.T) {
	for _, list := range [][]impl.Normal{plains(), balancedForms(), lendable()} {
		for i, n := range list {
			for _, r := range rewriters() {
				if out, _ := r.of(n); i%3 == 0 && overlap(out, n) {
					t.Fatalf("%s(%v) shares memory", r.name, n)
				}
			}
		}
	}
	// Equal parts of an argument that are in the same memory must not be so in the answer.
	lent, params, args := []int{1}, []int{1, 1}, []int{0}
	arm := block(4, impl.Step{Op: impl.OpDup, Args: args}, impl.Step{Op: impl.OpDrop, Args: args}, impl.Step{Op: impl.OpOpen, Args: args}, con(1, 2, 3))
	empty := block(0)
	body := block(2, match(1, 0, empty, arm))
	open := block(2, match(1, 0, empty, block(4, impl.Step{Op: impl.OpOpen, Args: args}, con(1, 2, 3))))
	plain := block(2, match(1, 0, block(2, con(0)), block(4, con(0))))
	for _, b := range []impl.Block{body, open, plain} {
		n := impl.Normal{Decls: lists(), Routines: []impl.Routine{{Body: block(0, one)}, {Params: params, Lent: lent, Result: 1, Body: b}, {Params: params, Lent: lent, Result: 1, Body: b}}}
		made := 0
		for _, r := range rewriters() {
			out, ok := r.of(n)
			if ok {
				made++
			}
			if overlap(out, n) {
				t.Errorf("%s of a normal form with parts in the same memory shares memory", r.name)
			}
		}
		if made < 2 {
			t.Errorf("%v is taken by %d functions", n, made)
		}
	}
}

// spoil writes into all numbers of a list, and behind them.
func spoil(numbers []int) {
	for i := range numbers {
		numbers[i] = 77
	}
	_ = append(numbers, 77, 77, 77)
}

func TestAnswersAreNewMemory(t *testing.T) {
	fields := [][]int{make([]int, 1, 9), make([]int, 2, 9)}
	decls := make([]impl.Decl, 1, 9)
	decls[0] = dataOf(fields...)
	whole := text(fields[0][:9]) + text(fields[1][:9]) + text(decls[:9])
	for c := 0; c <= 1; c++ {
		spoil(impl.ConFields(decls, c))
	}
	spoil(impl.ConsOf(decls, 1))
	spoil(impl.Inhabited(decls))
	if text(fields[0][:9])+text(fields[1][:9])+text(decls[:9]) != whole {
		t.Error("declarations share memory with an answer")
	}
	p := mapProgram()
	for f := range p.Funcs {
		params := make([]int, len(p.Funcs[f].Params), 9)
		copy(params, p.Funcs[f].Params)
		p.Funcs[f].Params = params
	}
	before := text(p)
	for f := range p.Funcs {
		spoil(impl.CalleesOf(p, f))
		spoil(impl.ReachedFrom(p, f))
		spoil(impl.UnusedParams(p, f))
		spoil(impl.FreeOf(p.Funcs[f].Body, 9))
		if extra := p.Funcs[f].Params[:9]; has(extra, 77) {
			t.Errorf("parameters %v share memory with an answer", extra)
		}
	}
	if text(p) != before || !same(impl.ReachedFrom(p, 0), 0, 1, 2, 3) || !same(impl.CalleesOf(p, 0), 1, 2, 3) || !same(impl.Inhabited(decls), 0, 1) {
		t.Error("programs share memory with an answer, or answers with each other")
	}
}

func TestTypeOfWritesNothingBehindVariables(t *testing.T) {
	vars := make([]int, 2, 9)
	vars[1] = 1
	e := let(v(1), ex(impl.OpMatch, 1, v(2), num(0), v(3)))
	if of := impl.TypeOf(ruleProgram(), vars, e); of != 0 {
		t.Errorf("TypeOf = %d", of)
	}
	if !same(vars[:9], 0, 1, 0, 0, 0, 0, 0, 0, 0) {
		t.Errorf("the memory behind the variables is %v", vars[:9])
	}
}

// spoilExpr writes into all nodes of an expression below the first one, and behind them.
func spoilExpr(e impl.Expr) {
	for i := range e.Kids {
		spoilExpr(e.Kids[i])
		e.Kids[i].Num = 77
	}
	_ = append(e.Kids, num(77), num(77))
}

func TestShiftReturnsNewMemory(t *testing.T) {
	for _, e := range rawExprs() {
		before := text(e)
		out, ok := impl.Shift(e, 1, 1)
		if ok {
			spoilExpr(out)
		}
		if text(e) != before {
			t.Fatalf("Shift of %s shares memory with it", before)
		}
	}
	kids := make([]impl.Expr, 1, 4)
	kids[0] = v(3)
	e := ex(impl.OpPrint, 0)
	e.Kids = kids
	both, _ := impl.Shift(add(e, e), 0, 1)
	both.Kids[0].Kids[0].Num = 77
	if both.Kids[1].Kids[0].Num != 4 {
		t.Error("two kids of an answer share memory")
	}
	alone, _ := impl.Shift(e, 0, 0)
	spoilExpr(alone)
	if text(kids[:4]) != text([]impl.Expr{v(3), {}, {}, {}}) {
		t.Errorf("the memory behind the kids is %v", kids[:4])
	}
}

func TestNilAndEmptyListsAreTheSame(t *testing.T) {
	p := impl.Program{
		Decls: []impl.Decl{{Cons: []impl.Con{{Fields: []int{}}}}, {Cons: []impl.Con{}}},
		Funcs: []impl.Func{{Params: []int{}, Body: impl.Expr{Kids: []impl.Expr{}}}},
	}
	q := impl.Program{Decls: []impl.Decl{data(), arrow(0, 0)}, Funcs: []impl.Func{{}}}
	if !impl.ValidProgram(p) || text(answers(p, []int{}, p.Funcs[0].Body)) != text(answers(q, nil, q.Funcs[0].Body)) {
		t.Error("empty lists are not nil lists")
	}
	step := impl.Step{Args: []int{}, Kids: []impl.Block{}}
	n := impl.Normal{Decls: p.Decls, Routines: []impl.Routine{{Params: []int{}, Lent: []int{}, Body: block(0, step)}}}
	m := impl.Normal{Decls: q.Decls, Routines: []impl.Routine{{Body: block(0, impl.Step{})}}}
	if !impl.ValidNormal(n) || text(blockAnswers(n, []int{}, impl.Block{Steps: []impl.Step{}})) != text(blockAnswers(m, nil, impl.Block{})) {
		t.Error("empty lists of normal forms are not nil lists")
	}
	if !impl.Balanced(n) || text(countAnswers(n)) != text(countAnswers(m)) {
		t.Error("empty lists of counted normal forms are not nil lists")
	}
}

// oddNumbers returns numbers at which sums and indices go wrong.
func oddNumbers() []int {
	return []int{-1 << 63, -1<<63 + 1, -1000, -1, 0, 1, 4, 5, 30, 31, 99, 100, 1000, 1 << 62, 1<<63 - 1}
}

// oddExprs returns expressions that are far from valid ones.
func oddExprs() []impl.Expr {
	out := []impl.Expr{endless(), doubled(62), wide(5000), deep(5000)}
	for _, n := range oddNumbers() {
		out = append(out, ex(n, 0), ex(n, 0, v(0), v(0)), v(n), num(n))
		for op := -1; op <= 26; op++ {
			out = append(out, ex(op, n), ex(op, n, v(n)), ex(op, n, v(0), v(1), v(2)), ex(op, n, endless()))
		}
	}
	return out
}

// oddBlocks returns blocks that are far from valid ones.
func oddBlocks() []impl.Block {
	out := append(tooLong(), block(0, choice(impl.OpDup, 0, 0, endlessBlock())))
	for _, n := range oddNumbers() {
		out = append(out, block(n), block(n, st(n, 0)), block(0, st(impl.OpInt, n)))
		for op := -1; op <= 26; op++ {
			out = append(out,
				block(0, st(op, n)), block(2, st(op, n, n)), block(1, st(op, 0, n, n)), block(1, into(st(op, 0), n)), block(3, into(st(op, 1, 0, 1), n)),
				block(0, choice(op, n, 1, block(n), block(0))), block(0, choice(op, 1, n, block(0), block(n))), block(2, impl.Step{Op: op, Num: n, Kids: []impl.Block{block(n)}}),
			)
		}
	}
	return out
}

func TestAllFunctionsOfNormalFormsReturn(t *testing.T) {
	n := ruleNormal()
	for _, b := range oddBlocks() {
		impl.StepsOf(b)
		impl.BlockType(n, []int{0, 1, 2}, b)
		for f := range n.Routines {
			other := withBlock(n, f, b)
			impl.ValidNormal(other)
			impl.EvalNormal(other, 40)
			impl.PlainOf(other)
		}
		for _, k := range oddNumbers() {
			impl.UsedIn(b, k)
			impl.UsedFrom(b, k, 0)
			impl.UsedFrom(b, 1, k)
			impl.UsesOf(b, k)
			impl.LastUse(b, k)
		}
	}
	for _, k := range oddNumbers() {
		impl.BlockType(n, []int{k}, block(0))
		impl.EvalNormal(n, k)
		impl.ValidNormal(withLent(n, 2, k))
		impl.ValidNormal(impl.Normal{Routines: []impl.Routine{{Params: []int{k}, Lent: []int{k}, Result: k}}})
		impl.BlockType(withLent(n, 2, k, k), []int{1}, block(0))
	}
}

// countAll calls all functions that count or check counts.
func countAll(n impl.Normal, f int, k int) {
	impl.IsPlain(n)
	impl.Count(n)
	impl.CountsOf(n)
	impl.Balanced(n)
	impl.BalancedRoutine(n, f)
	impl.OwnedAfter(n, f, k)
	impl.AliveAfter(n, f, k)
	impl.CountLate(n)
	impl.Cancel(n)
	impl.Saved(n)
	for _, r := range rewriters() {
		r.of(n)
	}
	impl.KeptAfter(n, f, k)
}

func TestAllFunctionsOfCountsReturn(t *testing.T) {
	n := ruleNormal()
	for _, b := range oddBlocks() {
		for f := range n.Routines {
			countAll(withBlock(n, f, b), f, 1)
		}
	}
	for _, f := range oddNumbers() {
		for _, k := range oddNumbers() {
			impl.BalancedRoutine(n, f)
			impl.OwnedAfter(n, f, k)
			impl.AliveAfter(n, f, k)
			impl.KeptAfter(n, f, k)
		}
		countAll(withLent(n, 2, f), 2, 0)
		countAll(impl.Normal{Routines: []impl.Routine{{Params: []int{f}, Lent: []int{f}, Result: f}}}, 0, 0)
	}
	// All that is valid can be asked for, also where it is far from balanced.
	for i, other := range normals() {
		for f := range other.Routines {
			countAll(other, f, i%3)
		}
	}
}

func TestAllFunctionsOfEvaluationReturn(t *testing.T) {
	p := ruleProgram()
	for _, e := range oddExprs() {
		impl.EvalExpr(p, e, 40)
		for f := range p.Funcs {
			other := withBody(p, f, e)
			impl.Eval(other, 40)
			impl.CallsOf(other)
			impl.Normalize(other)
		}
	}
	for _, a := range oddNumbers() {
		impl.Eval(p, a)
		impl.EvalExpr(p, num(a), 1)
		for _, b := range oddNumbers() {
			for op := -1; op <= 26; op++ {
				impl.Prim(op, a, b)
			}
			impl.Prim(a, b, b)
		}
	}
}

// The answers to odd arguments are tested elsewhere: here it counts that there are answers.
func TestAllFunctionsReturn(t *testing.T) {
	p := ruleProgram()
	for _, e := range oddExprs() {
		impl.NodesOf(e)
		impl.TypeOf(p, []int{0, 1, 2}, e)
		impl.ValidProgram(withBody(p, 3, e))
		impl.CalleesOf(withBodies(p, e), 0)
		impl.ReachedFrom(withBodies(p, e), 0)
		impl.UnusedParams(withBodies(p, e), 1)
		for _, n := range oddNumbers() {
			impl.FreeOf(e, n)
			impl.MentionsOf(e, n)
			impl.Shift(e, n, 1)
			impl.Shift(e, 1, n)
		}
	}
	for _, n := range oddNumbers() {
		for _, decls := range append(badDecls(), nil, p.Decls, []impl.Decl{arrow(n, 0)}, []impl.Decl{arrow(0, n)}, []impl.Decl{dataOf([]int{n})}) {
			impl.ValidTypes(decls)
			impl.ConType(decls, n)
			impl.ConFields(decls, n)
			impl.ConsOf(decls, n)
			impl.ArrowOf(decls, n, n)
			impl.Inhabited(decls)
		}
		impl.CalleesOf(p, n)
		impl.ReachedFrom(p, n)
		impl.UnusedParams(p, n)
		impl.TypeOf(p, []int{n}, v(0))
		impl.ValidSigs(impl.Program{Funcs: []impl.Func{{Params: []int{n}, Result: n}}})
	}
}
