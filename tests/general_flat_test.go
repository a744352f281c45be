package tests

import (
	"go/ast"
	"testing"

	"loop.example/refcountml/impl"
)

// imageAnswers returns, as texts, what all functions of images return for an image.
func imageAnswers(im impl.Image) []string {
	tail, ok := impl.TailCalls(im)
	out := []string{text(impl.ValidImage(im)), text(tail), text(ok)}
	for f := -1; f <= 4; f++ {
		out = append(out, text(impl.ReachedCode(im, f)))
	}
	return out
}

// heapAnswers returns, as texts, what all functions of heaps return for a heap and some words.
func heapAnswers(h []impl.Cell, words []int) []string {
	out := []string{text(impl.ValidHeap(h)), text(impl.LiveCells(h)), text(impl.ReachOf(h, words))}
	made, w := impl.AllocCell(h, len(words), words)
	out = append(out, text(made), text(w))
	for i, w := range words {
		more, fine := impl.DupWord(h, w)
		less, well := impl.DropWord(h, w)
		out = append(out, text(impl.RefsOf(h, i)), text(more), text(fine), text(less), text(well))
	}
	return out
}

// answersOf returns the answers to one of some questions, and the text of the arguments.
type answersOf func(i int) (answers []string, arguments string)

// changesNothing asks each question twice, with others between, and tells if an answer or an argument changes.
func changesNothing(t *testing.T, many int, ask answersOf) {
	t.Helper()
	for i := 0; i < many; i++ {
		first, before := ask(i)
		ask((i + 7) % many)
		if second, after := ask(i); text(second) != text(first) || after != before {
			t.Fatalf("other answers at the second time, or other arguments: %s", before)
		}
	}
}

func TestCallsOnImagesChangeNothing(t *testing.T) {
	all := append([]impl.Image{}, images()...)
	m := maker{seed: 71}
	for _, im := range images()[:300] {
		all = append(all, m.spoilt(im))
	}
	changesNothing(t, len(all)/3, func(i int) ([]string, string) {
		return imageAnswers(all[3*i]), text(all[3*i])
	})
}

func TestFlattenChangesNothing(t *testing.T) {
	all := append(append(badSignatures()[:5], plains()[:30]...), balancedVariants()...)
	changesNothing(t, len(all)/3, func(i int) ([]string, string) {
		im, ok := impl.Flatten(all[3*i])
		return []string{text(im), text(ok)}, text(all[3*i])
	})
}

func TestCallsOnHeapsChangeNothing(t *testing.T) {
	var all [][]impl.Cell
	m := maker{seed: 72}
	for i, h := range heaps() {
		all = append(all, h)
		if i%3 == 0 {
			all = append(all, m.spoiltHeap(h))
		}
	}
	changesNothing(t, len(all), func(i int) ([]string, string) {
		words := append(pointers(all[i]), 5, 1003)[:min(3, len(pointers(all[i]))+2)]
		return heapAnswers(all[i], words), text(all[i]) + text(words)
	})
}

func TestImagesAreNewMemory(t *testing.T) {
	for i, n := range balancedVariants() {
		if i%5 > 0 {
			continue
		}
		im := flattened(t, n)
		if overlap(im, n) {
			t.Fatalf("Flatten(%v) shares memory", n)
		}
	}
	for i, im := range images() {
		if i%5 > 0 {
			continue
		}
		if out := tailed(t, im); overlap(out, im) {
			t.Fatalf("TailCalls(%v) shares memory", im)
		}
		var lists [][]int
		for f := range im.Procs {
			lists = append(lists, impl.ReachedCode(im, f))
		}
		if overlap(lists, im) {
			t.Fatalf("ReachedCode(%v) shares memory", im)
		}
	}
	// Equal parts of an argument that are in the same memory must not be so in the answer.
	lent, params, args := []int{0}, []int{1, 1}, []int{1}
	kid := block(1, impl.Step{Op: impl.OpDup, Args: args}, impl.Step{Op: impl.OpDrop, Args: args})
	body := block(2, match(1, 0, kid, kid))
	n := impl.Normal{Decls: lists(), Routines: []impl.Routine{{Body: block(0, one)}, {Params: params, Lent: lent, Result: 1, Body: body}, {Params: params, Lent: lent, Result: 1, Body: body}}}
	if im := flattened(t, n); overlap(im, n) {
		t.Error("Flatten of a normal form with parts in the same memory shares memory")
	}
	jumps := []int{3, 3}
	code := []impl.Instr{{Op: impl.OpSwitch, Num: 1, Args: args, Jumps: jumps}, {Op: impl.OpSwitch, Num: 1, Args: args, Jumps: jumps}, {Op: impl.OpCall, Num: 2, Args: args}, {Op: impl.OpReturn, Args: args}}
	im := imageOf(code...)
	im.Procs[1] = impl.Proc{Params: params, Lent: lent, Result: 1, Regs: 2, Code: code}
	im.Procs[3] = im.Procs[1]
	if out := tailed(t, im); overlap(out, im) {
		t.Error("TailCalls of an image with parts in the same memory shares memory")
	}
	im.Procs[3].Code = []impl.Instr{{Op: impl.OpCall, Dst: 1, Num: 2, Args: args}, {Op: impl.OpReturn, Args: args}}
	im.Procs[1].Code = im.Procs[3].Code
	if out := tailed(t, im); overlap(out, im) || countOps(out, impl.OpTail) != 2 {
		t.Errorf("TailCalls = %v, or it shares memory", out)
	}
}

func TestHeapsAreNewMemory(t *testing.T) {
	m := maker{seed: 73}
	for _, h := range heaps() {
		fields := []int{m.wordTo(m.order(len(h))), 7}
		made, _ := impl.AllocCell(h, 3, fields)
		answer := [][]impl.Cell{made}
		words := append(pointers(h), 5)
		for _, w := range words {
			more, _ := impl.DupWord(h, w)
			less, _ := impl.DropWord(h, w)
			answer = append(answer, more, less)
		}
		if overlap(answer, h) || overlap(answer, fields) || overlap(answer, words) {
			t.Fatalf("answers to %v share memory", h)
		}
		first, second := impl.ReachOf(h, words), impl.ReachOf(h, words)
		if overlap([][]int{first, second}, words) || overlap([][]int{first, second}, h) {
			t.Fatalf("ReachOf(%v, %v) shares memory", h, words)
		}
	}
	// Cells whose fields are in the same memory, with spare room behind them.
	fields := make([]int, 2, 9)
	h := make([]impl.Cell, 0, 9)
	h = append(h, live(2, 0, fields...), impl.Cell{Count: 2, Fields: fields}, impl.Cell{Count: 1, Fields: fields})
	made, _ := impl.AllocCell(h, 1, fields)
	more, _ := impl.DupWord(h, 1001)
	less, _ := impl.DropWord(h, 1002)
	if overlap([][]impl.Cell{made, more, less}, h) || overlap(made, fields) {
		t.Error("answers to a heap with parts in the same memory share memory")
	}
	spare := h[:4]
	if text(spare[3]) != text(impl.Cell{}) || !same(fields[:9], 0, 0, 0, 0, 0, 0, 0, 0, 0) {
		t.Error("the memory behind an argument is written")
	}
}

func TestNilAndEmptyListsOfImagesAreTheSame(t *testing.T) {
	empty := []int{}
	x := impl.Instr{Op: impl.OpInt, Args: empty, Jumps: empty}
	y := impl.Instr{Op: impl.OpReturn, Args: []int{0}, Jumps: empty}
	im := impl.Image{Decls: []impl.Decl{}, Procs: []impl.Proc{{Params: empty, Lent: empty, Regs: 1, Code: []impl.Instr{x, y}}}}
	other := impl.Image{Procs: []impl.Proc{{Regs: 1, Code: []impl.Instr{{}, {Op: impl.OpReturn, Args: []int{0}}}}}}
	if !impl.ValidImage(im) || text(imageAnswers(im)) != text(imageAnswers(other)) {
		t.Error("empty lists of images are not nil lists")
	}
	if text(imageAnswers(impl.Image{Procs: []impl.Proc{}})) != text(imageAnswers(impl.Image{})) {
		t.Error("images without procedures are not alike")
	}
	h := []impl.Cell{{Fields: empty}, {Count: -1, Fields: empty}, {Count: 1, Fields: empty}}
	if !impl.ValidHeap(h) || text(heapAnswers(h, []int{1002, 0})) != text(heapAnswers(heap(free(), keep(0), live(1, 0)), []int{1002, 0})) {
		t.Error("empty lists of heaps are not nil lists")
	}
	if text(heapAnswers([]impl.Cell{}, empty)) != text(heapAnswers(nil, nil)) {
		t.Error("empty heaps are not alike")
	}
}

// oddImages returns images that are far from valid ones, or nearly valid with far numbers.
func oddImages() []impl.Image {
	var out []impl.Image
	for _, n := range oddNumbers() {
		for op := -1; op <= 26; op++ {
			for _, x := range []impl.Instr{
				in(op, n), in(op, n, n), to(n, op, 0, 0), to(n, op, 0, 0, 0), in(op, 1, 0, n), in(op, n, 0), {Op: op, Into: n, Args: []int{0, 1}}, {Op: op, Num: 1, Into: n, Args: []int{0, 1}},
				{Op: op, Num: n, Args: []int{0}, Jumps: []int{n, n}}, {Op: op, Num: 1, Args: []int{0}, Jumps: []int{n, 1}}, {Op: op, Num: 1, Args: []int{0}, Jumps: []int{1, n}},
			} {
				out = append(out, imageOf(x, back(0)), imageOf(x))
			}
		}
		for _, change := range []func(p *impl.Proc){
			func(p *impl.Proc) { p.Regs = n }, func(p *impl.Proc) { p.Result = n }, func(p *impl.Proc) { p.Params = []int{n} },
			func(p *impl.Proc) { p.Lent = []int{n} }, func(p *impl.Proc) { p.Lent = []int{0, n, n} }, func(p *impl.Proc) { p.Code = nil },
		} {
			for f := 0; f < 4; f++ {
				out = append(out, changedImage(imageOf(callTo(2, 3, 0, 1), back(2)), func(im *impl.Image) { change(&im.Procs[f]) }))
			}
		}
	}
	return append(out, impl.Image{}, impl.Image{Procs: make([]impl.Proc, 100000)})
}

func TestAllFunctionsOfImagesReturn(t *testing.T) {
	for _, im := range oddImages() {
		if impl.ValidImage(im) != imageFits(im) {
			t.Fatalf("ValidImage(%v) = %v", im, impl.ValidImage(im))
		}
		impl.TailCalls(im)
		for f := -1; f <= 4; f++ {
			impl.ReachedCode(im, f)
		}
	}
	im := imageOf(back(0))
	for _, n := range oddNumbers() {
		impl.ReachedCode(im, n)
		impl.Flatten(withLent(ruleNormal(), 2, n))
		impl.Flatten(impl.Normal{Routines: []impl.Routine{{Params: []int{n}, Lent: []int{n}, Result: n}}})
	}
	for _, b := range oddBlocks() {
		for f := 0; f < 4; f++ {
			impl.Flatten(withBlock(ruleNormal(), f, b))
		}
	}
	for _, n := range normals() {
		impl.Flatten(n)
	}
}

func TestAllFunctionsOfHeapsReturn(t *testing.T) {
	all := append([][]impl.Cell{}, heaps()[:200]...)
	for _, c := range heapRules() {
		all = append(all, c.h)
	}
	for _, n := range oddNumbers() {
		all = append(all, heap(live(n, 0)), heap(live(1, n)), heap(live(1, 0, n)), heap(live(-1, 0, n)), heap(live(0, 0, n), live(1, 0)), heap(live(n, 0), live(1, 0, 1000)))
	}
	for _, h := range all {
		if impl.ValidHeap(h) != heapFits(h) {
			t.Fatalf("ValidHeap(%.200s) = %v", text(h), impl.ValidHeap(h))
		}
		impl.LiveCells(h)
		for _, n := range append(oddNumbers(), 999, 1001, 1002, -999) {
			impl.RefsOf(h, n)
			impl.ReachOf(h, []int{n, n})
			impl.AllocCell(h, n, nil)
			impl.AllocCell(h, 0, []int{n})
			impl.DupWord(h, n)
			impl.DropWord(h, n)
		}
	}
}

// patches reports whether a function of a file of impl sets a field of an element that was made before.
func patches(t *testing.T, name string, field string) bool {
	t.Helper()
	found := false
	for _, d := range declared(t, name) {
		ast.Inspect(d, func(n ast.Node) bool {
			a, ok := n.(*ast.AssignStmt)
			if !ok {
				return true
			}
			for _, left := range a.Lhs {
				if s, ok := left.(*ast.SelectorExpr); ok && s.Sel.Name == field {
					_, element := s.X.(*ast.IndexExpr)
					found = found || element
				}
			}
			return true
		})
	}
	return found
}

func TestWaysOfTheFifthStage(t *testing.T) {
	if !hasField(t, "l13_flat.go", "assembler", "code", "[]Instr") || !hasSignature(t, "l13_flat.go", signature{of: "assembler", params: "Block, int, []arm", result: ""}) {
		t.Error("flat code is made without an assembler")
	}
	if !patches(t, "l13_flat.go", "Num") || !patches(t, "l13_flat.go", "Jumps") {
		t.Error("jumps are not patched")
	}
	if !hasField(t, "l14_heap.go", "dropper", "list", "[]int") {
		t.Error("words are dropped without a work list")
	}
	for _, name := range []string{"ValidHeap", "ReachOf", "DropWord"} {
		if recursive(callsOf(t, "l14_heap.go"), name, 6) {
			t.Errorf("%s is recursive, and has no work list", name)
		}
	}
}
