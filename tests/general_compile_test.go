package tests

import (
	"go/ast"
	"testing"

	"loop.example/refcountml/impl"
)

// compileAnswers returns, as texts, what all functions that simplify or compile programs return for a program.
func compileAnswers(p impl.Program) []string {
	folded, fine := impl.Fold(p)
	known, well := impl.KnownCalls(p)
	out := []string{text(folded), text(fine), text(known), text(well)}
	for f := -1; f <= 4; f++ {
		one, ok := impl.Inline(p, f)
		out = append(out, text(impl.MayInline(p, f)), text(one), text(ok), text(impl.CallSites(p, f)))
	}
	for _, flags := range []int{-1, 0, 3, 4, 8, 16, 96, 128, 255, 256} {
		n, fine := impl.CompileNormal(p, flags)
		im, well := impl.Compile(p, flags)
		o, good := impl.Perform(p, flags, 9)
		c, ok := impl.CostOf(p, flags, 9)
		out = append(out, text(n), text(fine), text(im), text(well), text(o), text(good), text(c), text(ok))
	}
	return out
}

func TestCompilingChangesNothing(t *testing.T) {
	all := append(badSigs(), richPrograms()...)
	for i, p := range simplePrograms() {
		if i%6 == 0 {
			all = append(all, p)
		}
	}
	changesNothing(t, len(all), func(i int) ([]string, string) {
		return compileAnswers(all[i]), text(all[i])
	})
	exprs := rawExprs()
	changesNothing(t, len(exprs), func(i int) ([]string, string) {
		return []string{impl.FormatExpr(exprs[i])}, text(exprs[i])
	})
}

// inOneMemory returns a program whose equal lists are in the same memory, with spare room behind them.
func inOneMemory() impl.Program {
	numbers := make([]int, 3, 9)
	args := make([]impl.Expr, 3, 9)
	kids := make([]impl.Expr, 3, 9)
	for k := range kids {
		args[k] = num(k)
		kids[k] = ex(impl.OpCall, 1, args...)
	}
	body := ex(impl.OpMatch, 1, ex(impl.OpCon, 0, kids...), num(7))
	funcs := make([]impl.Func, 4, 9)
	for f := range funcs {
		funcs[f] = impl.Func{Params: numbers, Body: body}
	}
	funcs[0].Params = nil
	funcs[1].Body = v(1)
	funcs[3].Body = ex(impl.OpApply, 0, ex(impl.OpClose, 1, args[:2]...), num(4))
	cons := make([]impl.Con, 1, 9)
	cons[0].Fields = numbers
	decls := make([]impl.Decl, 3, 9)
	for k := range decls {
		decls[k].Cons = cons
	}
	decls[2] = arrow(0, 0)
	return impl.Program{Decls: decls, Funcs: funcs}
}

// behind returns what is behind the lists of such a program.
func behind(p impl.Program) string {
	kids := p.Funcs[0].Body.Kids[0].Kids
	return text(p.Decls[3:9]) + text(p.Funcs[4:9]) + text(p.Decls[0].Cons[1:9]) + text(p.Funcs[1].Params[3:9]) + text(kids[3:9]) + text(kids[0].Kids[3:9])
}

func TestSimplifiedProgramsAreNewMemory(t *testing.T) {
	all := append([]impl.Program{inOneMemory()}, richPrograms()...)
	for i, p := range simplePrograms() {
		if i%3 == 0 {
			all = append(all, p)
		}
	}
	inlined := 0
	for _, p := range all {
		folded, _ := impl.Fold(p)
		known, _ := impl.KnownCalls(p)
		answer := []impl.Program{folded, known}
		for f := range p.Funcs {
			out, ok := impl.Inline(p, f)
			if ok {
				inlined++
			}
			answer = append(answer, out)
		}
		if overlap(answer, p) {
			t.Fatalf("Fold, KnownCalls or Inline of %v shares memory", p)
		}
	}
	if inlined < 100 {
		t.Errorf("only %d functions are inlined", inlined)
	}
}

func TestCompiledProgramsAreNewMemory(t *testing.T) {
	for i, p := range append([]impl.Program{inOneMemory()}, richPrograms()...) {
		for flags := i; flags <= 255; flags += 3 {
			n, _ := impl.CompileNormal(p, flags)
			im, _ := impl.Compile(p, flags)
			o, _ := impl.Perform(p, flags, 40)
			if overlap(n, p) || overlap(im, p) || overlap(n, im) || overlap(o, p) {
				t.Fatalf("CompileNormal, Compile or Perform of %v with %d shares memory", p, flags)
			}
		}
	}
}

// What is behind the lists of an argument must not be written, and equal parts in the same memory are parts of their own.
func TestProgramsInOneMemory(t *testing.T) {
	p := inOneMemory()
	if !impl.ValidProgram(p) {
		t.Fatalf("%v is not valid", p)
	}
	before, spare := text(p), behind(p)
	compileAnswers(p)
	for f := range p.Funcs {
		impl.FormatExpr(p.Funcs[f].Body)
	}
	if text(p) != before || behind(p) != spare {
		t.Error("an argument is written, or the memory behind it")
	}
	folded, _ := impl.Fold(p)
	known, _ := impl.KnownCalls(p)
	inlined, _ := impl.Inline(p, 1)
	first, _ := foldMeaning(p)
	last, _ := inlineMeaning(p, 1)
	if text(folded) != text(first) || text(known) != text(knownMeaning(p)) || text(inlined) != text(last) {
		t.Errorf("Fold, KnownCalls and Inline = %v, %v, %v", folded, known, inlined)
	}
	if text(folded) == before || text(known) == before || text(inlined) == before || text(inlined) == text(impl.Program{}) {
		t.Errorf("Fold, KnownCalls or Inline change nothing: %v, %v, %v", folded, known, inlined)
	}
}

func TestNilAndEmptyListsOfSimplifiedProgramsAreTheSame(t *testing.T) {
	p := impl.Program{
		Decls: []impl.Decl{{Cons: []impl.Con{{Fields: []int{}}}}, {Cons: []impl.Con{}}},
		Funcs: []impl.Func{
			{Params: []int{}, Body: ex(impl.OpMatch, 1, impl.Expr{Op: impl.OpCon, Kids: []impl.Expr{}}, ex(impl.OpCall, 1, impl.Expr{Num: 4, Kids: []impl.Expr{}}))},
			{Params: []int{0}, Body: ex(impl.OpApply, 0, impl.Expr{Op: impl.OpClose, Num: 2, Kids: []impl.Expr{}}, v(0))}, {Params: []int{0}, Body: v(0)},
		},
	}
	q := impl.Program{
		Decls: []impl.Decl{data(), arrow(0, 0)},
		Funcs: []impl.Func{{Body: parsed("(match1 (con0) (call1 4))")}, {Params: []int{0}, Body: parsed("(apply (close2) v0)")}, {Params: []int{0}, Body: v(0)}},
	}
	if !impl.ValidProgram(p) || text(compileAnswers(p)) != text(compileAnswers(q)) {
		t.Error("empty lists are not nil lists")
	}
}

func TestAllFunctionsOfCompilingReturn(t *testing.T) {
	for _, e := range oddExprs() {
		impl.FormatExpr(e)
		impl.FormatExpr(ex(impl.OpPrint, 0, e))
		for f := 0; f <= 3; f++ {
			p := withBody(ruleProgram(), f, e)
			impl.Fold(p)
			impl.KnownCalls(p)
			impl.MayInline(p, f)
			impl.Inline(p, 1)
			impl.CallSites(p, f)
			impl.CompileNormal(p, 255)
			impl.Compile(p, 254)
			impl.Perform(p, 0, 40)
			impl.CostOf(p, 1, 40)
		}
	}
	for _, a := range oddNumbers() {
		for _, b := range oddNumbers() {
			impl.Perform(sumProgram(), a, b)
			impl.CostOf(sumProgram(), a, b)
			impl.Compile(withBody(sumProgram(), 0, num(b)), a)
			impl.Inline(withBody(sumProgram(), 0, num(b)), a)
			impl.FormatExpr(ex(a, b))
			impl.FormatExpr(ex(a, b, num(b)))
		}
		impl.CompileNormal(sumProgram(), a)
		impl.MayInline(sumProgram(), a)
		impl.CallSites(sumProgram(), a)
	}
}

// chooses reports whether a file of impl has a function that chooses by a switch over one of its parameters, with at least some cases, each of which returns what a function gives.
func chooses(t *testing.T, name string, cases int) bool {
	t.Helper()
	for _, d := range declared(t, name) {
		f, ok := d.(*ast.FuncDecl)
		if !ok {
			continue
		}
		found := false
		ast.Inspect(f, func(n ast.Node) bool {
			s, ok := n.(*ast.SwitchStmt)
			if !ok {
				return true
			}
			_, plain := s.Tag.(*ast.Ident)
			found = plain && len(s.Body.List) >= cases
			for _, c := range s.Body.List {
				found = found && isGiven(c)
			}
			return true
		})
		if found {
			return true
		}
	}
	return false
}

// isGiven reports whether a case of a switch returns what a function gives.
func isGiven(c ast.Stmt) bool {
	body := c.(*ast.CaseClause).Body
	if len(body) != 1 {
		return false
	}
	r, ok := body[0].(*ast.ReturnStmt)
	if !ok || len(r.Results) != 1 {
		return false
	}
	_, ok = r.Results[0].(*ast.CallExpr)
	return ok
}

func TestWaysOfTheSeventhStage(t *testing.T) {
	for _, c := range [][]string{{"l18_fold.go", "Fold"}, {"l18_fold.go", "KnownCalls"}, {"l19_inline.go", "Inline"}} {
		if !recursive(callsOf(t, c[0]), c[1], 4) {
			t.Errorf("%s is not a recursive function on trees", c[1])
		}
	}
	// The specification suggests function values in a table, which the subset leaves out: there a table is a switch.
	if !chooses(t, "l20_compile.go", 5) {
		t.Error("what flags ask for is not in a table")
	}
}
