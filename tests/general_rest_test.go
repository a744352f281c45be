package tests

import (
	"strings"
	"testing"

	"loop.example/refcountml/impl"
)

// lazyAnswers returns, as texts, what all functions of lazy heaps return for a lazy heap and some words.
func lazyAnswers(z impl.Lazy, words []int) []string {
	h, fine := impl.SettledHeap(z)
	made, w := impl.LazyAlloc(z, len(words), words)
	out := []string{text(impl.ValidLazy(z)), text(h), text(fine), text(made), text(w)}
	for many, w := range words {
		less, fine := impl.LazyDrop(z, w)
		rest, well := impl.Settle(z, many)
		out = append(out, text(less), text(fine), text(rest), text(well))
	}
	return out
}

// memoryAnswers returns, as texts, what all functions of memories return for a memory and some words.
func memoryAnswers(m impl.Memory, words []int) []string {
	h, fine := impl.HeapOf(m)
	made, w := impl.AllocBlock(m, len(words), words)
	out := []string{text(impl.ValidMemory(m)), text(h), text(fine), text(made), text(w)}
	for _, w := range words {
		more, fine := impl.DupBlock(m, w)
		less, well := impl.DropBlock(m, w)
		out = append(out, text(impl.CellOf(m, w)), text(more), text(fine), text(less), text(well))
	}
	return out
}

// proofAnswers returns, as texts, what all functions that encode or verify return for an image.
func proofAnswers(im impl.Image) []string {
	bytes := impl.EncodeImage(im)
	back, ok := impl.DecodeImage(bytes)
	out := []string{text(bytes), text(impl.EncodedLength(im)), text(back), text(ok), text(impl.Verified(im))}
	for f := -1; f <= 4; f++ {
		out = append(out, text(impl.VerifiedProc(im, f)), text(impl.TypesAt(im, f, 1)), text(impl.OwnsAt(im, f, 1)))
	}
	return out
}

// textAnswers returns what all functions of texts and sessions return for a program and some lines.
func textAnswers(p impl.Program, lines []string) []string {
	s := impl.FormatProgram(p)
	back, ok := impl.ParseProgram(s)
	out := []string{s, text(back), text(ok), impl.RunSession(p, lines)}
	for f := range p.Funcs {
		e, ok := impl.ParseExpr(impl.FormatExpr(p.Funcs[f].Body))
		out = append(out, text(e), text(ok))
	}
	return out
}

func TestCallsOnLazyHeapsChangeNothing(t *testing.T) {
	all := append([]impl.Lazy{}, lazies()...)
	m := maker{seed: 2701}
	for i, z := range lazies() {
		if i%4 == 0 {
			all = append(all, m.spoiltLazy(z))
		}
	}
	changesNothing(t, len(all), func(i int) ([]string, string) {
		words := append(pointers(all[i].Cells), 5, 1003)[:min(3, len(pointers(all[i].Cells))+2)]
		return lazyAnswers(all[i], words), text(all[i]) + text(words)
	})
}

func TestCallsOnMemoriesChangeNothing(t *testing.T) {
	all := append([]impl.Memory{}, memories()...)
	k := maker{seed: 2702}
	for i, m := range memories() {
		if i%4 == 0 {
			all = append(all, k.spoiltMemory(m))
		}
	}
	changesNothing(t, len(all), func(i int) ([]string, string) {
		words := []int{1000 + 2*(i%9), 7, 1000 + i%30}
		return memoryAnswers(all[i], words), text(all[i]) + text(words)
	})
}

func TestEncodingAndVerifyingChangeNothing(t *testing.T) {
	var all []impl.Image
	m := maker{seed: 2703}
	for i, im := range append(append([]impl.Image{}, images()...), editedImages()...) {
		switch i % 12 {
		case 0:
			all = append(all, im)
		case 6:
			all = append(all, m.spoilt(im))
		}
	}
	changesNothing(t, len(all), func(i int) ([]string, string) {
		return proofAnswers(all[i]), text(all[i])
	})
	changesNothing(t, len(all), func(i int) ([]string, string) {
		bytes := append(impl.EncodeImage(all[i]), 128, 0)[:i%9*len(impl.EncodeImage(all[i]))/8]
		im, ok := impl.DecodeImage(bytes)
		return []string{text(im), text(ok)}, text(bytes)
	})
}

func TestSessionsChangeNothing(t *testing.T) {
	all := append(badSigs(), richPrograms()...)
	for i, p := range simplePrograms() {
		if i%5 == 0 {
			all = append(all, p)
		}
	}
	lines := []string{"fold", "known", "inline 1", "inline 2", "inline 3", "eval 9", "run 255 9", "body 0", "size 0", "eval"}
	changesNothing(t, len(all), func(i int) ([]string, string) {
		return textAnswers(all[i], lines), text(all[i]) + text(lines)
	})
}

func TestLazyHeapsAndMemoriesAreNewMemory(t *testing.T) {
	k := maker{seed: 2704}
	for _, z := range lazies() {
		fields := []int{k.wordTo(k.order(len(z.Cells))), 7}
		first, _ := impl.Settle(z, 0)
		one, _ := impl.Settle(z, 1)
		h, _ := impl.SettledHeap(z)
		made, _ := impl.LazyAlloc(z, 3, fields)
		answer := []impl.Lazy{first, one, {Cells: h}, made}
		for _, w := range append(pointers(z.Cells), 5) {
			less, _ := impl.LazyDrop(z, w)
			answer = append(answer, less)
		}
		if overlap(answer, z) || overlap(answer, fields) {
			t.Fatalf("answers to %v share memory", z)
		}
	}
	for _, m := range memories() {
		h, _ := impl.HeapOf(m)
		other, _ := impl.HeapOf(m)
		fields := []int{1000, 7}
		made, _ := impl.AllocBlock(m, 3, fields)
		again, _ := impl.AllocBlock(m, 3, nil)
		answer := []impl.Memory{made, again}
		for _, w := range []int{5, 1000, 1000 + len(m.Words)/2} {
			more, _ := impl.DupBlock(m, w)
			less, _ := impl.DropBlock(m, w)
			answer = append(answer, more, less)
		}
		if overlap(answer, m) || overlap(answer, fields) || overlap([][]impl.Cell{h, other}, m) {
			t.Fatalf("answers to %v share memory", m)
		}
	}
}

func TestDecodedImagesAndFactsAreNewMemory(t *testing.T) {
	for i, im := range verifiedImages() {
		if i%9 > 0 {
			continue
		}
		bytes, other := impl.EncodeImage(im), impl.EncodeImage(im)
		back, _ := impl.DecodeImage(bytes)
		if overlap([][]int{bytes, other}, im) || overlap(back, bytes) || overlap(back, im) {
			t.Fatalf("EncodeImage or DecodeImage of %v shares memory", im)
		}
		if lists := [][]int{impl.TypesAt(im, 0, 0), impl.TypesAt(im, 0, 0), impl.OwnsAt(im, 0, 0), impl.OwnsAt(im, 0, 0)}; overlap(lists, im) {
			t.Fatalf("TypesAt or OwnsAt of %v shares memory", im)
		}
	}
	for _, p := range richPrograms() {
		q, _ := impl.ParseProgram(impl.FormatProgram(p))
		e, _ := impl.ParseExpr(impl.FormatExpr(p.Funcs[0].Body))
		if overlap(q, p) || overlap(e, p) {
			t.Fatalf("ParseProgram or ParseExpr of %v shares memory", p)
		}
	}
}

// Lists of an argument that are in the same memory, with spare room behind them, must not be written into.
func TestLazyHeapsAndMemoriesInOneMemory(t *testing.T) {
	numbers := make([]int, 3, 20)
	cells := make([]impl.Cell, 3, 20)
	cells[1] = impl.Cell{Fields: numbers[:2]}
	cells[2] = impl.Cell{Count: 1, Fields: numbers[:3]}
	cells[0] = impl.Cell{Fields: numbers[:1]}
	pending := make([]int, 2, 20)
	pending[0] = 1
	z := impl.Lazy{Cells: cells, Pending: pending}
	if !impl.ValidLazy(z) {
		t.Fatalf("ValidLazy(%v) = false", z)
	}
	before := text(z)
	down, _ := impl.LazyDrop(z, 1002)
	one, _ := impl.Settle(z, 1)
	h, _ := impl.SettledHeap(z)
	made, w := impl.LazyAlloc(z, 1, numbers[:2])
	if answer := []impl.Lazy{down, one, {Cells: h}, made}; overlap(answer, z) || w != 1001 || len(down.Pending) != 3 || len(h) != 3 {
		t.Errorf("answers to %v are %v, or share memory", z, answer)
	}
	if text(z) != before || text(numbers[:20]) != text(make([]int, 20)) || text(cells[3:20]) != text(make([]impl.Cell, 17)) || text(pending[2:20]) != text(make([]int, 18)) {
		t.Error("an argument is written, or the memory behind it")
	}
	words := make([]int, 8, 30)
	words[0], words[2], words[3], words[4] = 1, 1, 1, 1000
	words[6] = 4
	m := impl.Memory{Words: words[:5], Free: words[9:13]}
	before = text(words[:30])
	if !impl.ValidMemory(m) {
		t.Fatalf("ValidMemory(%v) = false", m)
	}
	more, _ := impl.DupBlock(m, 1000)
	less, _ := impl.DropBlock(m, 1002)
	longer, at := impl.AllocBlock(m, 1, words[10:12])
	if answer := []impl.Memory{more, less, longer}; overlap(answer, m) || overlap(answer, words) || at != 1005 || text(words[:30]) != before {
		t.Errorf("answers to %v are %v, or share memory, or it is written", m, answer)
	}
	bytes := make([]int, 0, 400)
	for _, b := range impl.EncodeImage(smallImage()) {
		bytes = append(bytes, b)
	}
	if im := decoded(t, bytes); overlap(im, bytes) || text(bytes[len(bytes):400]) != text(make([]int, 400-len(bytes))) {
		t.Error("DecodeImage writes behind the bytes, or shares memory")
	}
	lines := append(make([]string, 0, 9), "fold", "body 0")
	if impl.RunSession(sumProgram(), lines); text(lines[:9]) != text([]string{"fold", "body 0", "", "", "", "", "", "", ""}) {
		t.Error("RunSession writes behind the lines")
	}
}

func TestNilAndEmptyListsOfTheLastChaptersAreTheSame(t *testing.T) {
	empty := []int{}
	z := impl.Lazy{Cells: []impl.Cell{{Fields: empty}, {Fields: empty}, {Count: 1, Fields: empty}}, Pending: []int{1}}
	if !impl.ValidLazy(z) || text(lazyAnswers(z, []int{1002, 0})) != text(lazyAnswers(lazy(heap(free(), waits(0), live(1, 0)), 1), []int{1002, 0})) {
		t.Error("empty lists of lazy heaps are not nil lists")
	}
	if text(lazyAnswers(impl.Lazy{Cells: []impl.Cell{}, Pending: empty}, empty)) != text(lazyAnswers(impl.Lazy{}, nil)) {
		t.Error("empty lazy heaps are not alike")
	}
	if text(memoryAnswers(impl.Memory{Words: empty, Free: make([]int, 4)}, empty)) != text(memoryAnswers(memory(0, 0, 0, 0), nil)) || text(memoryAnswers(impl.Memory{Words: empty, Free: empty}, nil)) != text(memoryAnswers(impl.Memory{}, nil)) {
		t.Error("empty memories are not alike")
	}
	x := impl.Instr{Op: impl.OpInt, Args: empty, Jumps: empty}
	y := impl.Instr{Op: impl.OpReturn, Args: []int{0}, Jumps: empty}
	im := impl.Image{Decls: []impl.Decl{}, Procs: []impl.Proc{{Params: empty, Lent: empty, Regs: 1, Code: []impl.Instr{x, y}}}}
	other := impl.Image{Procs: []impl.Proc{{Regs: 1, Code: []impl.Instr{{}, {Op: impl.OpReturn, Args: []int{0}}}}}}
	if !impl.Verified(im) || text(proofAnswers(im)) != text(proofAnswers(other)) {
		t.Error("empty lists of images are not nil lists")
	}
	p := impl.Program{Decls: []impl.Decl{{Cons: []impl.Con{{Fields: empty}}}, {Cons: []impl.Con{}}}, Funcs: []impl.Func{{Params: empty, Body: impl.Expr{Num: 4, Kids: []impl.Expr{}}}}}
	q := impl.Program{Decls: []impl.Decl{data(), arrow(0, 0)}, Funcs: []impl.Func{{Body: num(4)}}}
	if !impl.ValidProgram(p) || text(textAnswers(p, []string{"body 0"})) != text(textAnswers(q, []string{"body 0"})) || impl.RunSession(p, []string{}) != impl.RunSession(q, nil) {
		t.Error("empty lists of programs are not nil lists")
	}
	if impl.FormatOutcome(impl.Outcome{Out: empty}) != impl.FormatOutcome(impl.Outcome{}) {
		t.Error("outcomes without printed numbers are not alike")
	}
	if _, ok := impl.DecodeImage(empty); ok {
		t.Error("DecodeImage of no bytes")
	}
}

func TestAllFunctionsOfTheLastChaptersReturn(t *testing.T) {
	for _, a := range append(oddNumbers(), -999, 999, 1001, 1002, 127, 128, 255, 256) {
		for _, b := range oddNumbers() {
			for _, z := range []impl.Lazy{lazy(heap(live(a, 0, b))), lazy(heap(live(1, 0)), a, b), lazy(heap(waits(a, b)), 0), lazy(heap(waits(0, a), live(2, 0, b)), 0), lazy(heap(live(a, 0), waits(0, 1000)), 1), lazy(heap(live(2, 0), waits(0, 1000)), 1)} {
				if impl.ValidLazy(z) != lazyFits(z) {
					t.Fatalf("ValidLazy(%v) = %v", z, impl.ValidLazy(z))
				}
				impl.Settle(z, a)
				impl.SettledHeap(z)
				impl.LazyDrop(z, b)
				impl.LazyAlloc(z, a, []int{b, b})
			}
			for _, m := range []impl.Memory{{Words: []int{a, b}, Free: []int{0, 0, 0, 0}}, {Words: []int{a, b, b}, Free: []int{a, b, a, b}}, memory(1, 1, a, b, b, b, b), memory(0, a, 0, 0, b, 0, 0), memory(0, 0, a, b, 0, 0), memory(2, 0, 1, 1, 1000, 0, 0, 0, 0), {Free: []int{a, b}}, {Words: []int{a, 3, b, a, b}, Free: make([]int, 4)}} {
				_, want := heapMeaning(m)
				if impl.ValidMemory(m) != want {
					t.Fatalf("ValidMemory(%v) = %v", m, !want)
				}
				impl.HeapOf(m)
				impl.CellOf(m, a)
				impl.AllocBlock(m, a, []int{b})
				impl.DupBlock(m, a)
				impl.DropBlock(m, a)
			}
			impl.DecodeImage([]int{a, b, a, b, b, a})
			impl.DecodeImage(append([]int{128, 0, 128, 1, a, b}, make([]int, 100)...))
			impl.FormatOutcome(impl.Outcome{Status: a, Value: b, Calls: a, Out: []int{b}})
			impl.VerifiedProc(smallImage(), a)
			impl.TypesAt(smallImage(), a, b)
			impl.OwnsAt(smallImage(), a, b)
		}
	}
	for _, im := range oddImages() {
		impl.Verified(im)
		impl.EncodeImage(im)
		impl.EncodedLength(im)
		for f := -1; f <= 4; f++ {
			impl.VerifiedProc(im, f)
			impl.TypesAt(im, f, 1)
			impl.OwnsAt(im, f, 0)
		}
	}
	for _, e := range oddExprs() {
		p := withBody(ruleProgram(), 1, e)
		impl.FormatProgram(p)
		impl.RunSession(p, []string{"fold", "body 1"})
	}
	for b := 0; b < 256; b++ {
		s := string([]byte{byte(b)})
		for _, whole := range []string{s, s + s, "(" + s, "v" + s, "-" + s, "1" + s, "(con" + s, "data" + s, "fun (" + s, "fun () 0 1\n" + s, "arrow 0 " + s} {
			impl.ParseExpr(whole)
			impl.ParseProgram(whole)
			impl.RunSession(sumProgram(), []string{whole, "eval " + s, s + " 1", strings.Repeat(s, 4)})
		}
	}
}

func TestWaysOfTheEighthStage(t *testing.T) {
	if !hasField(t, "l21_lazy.go", "settler", "queue", "[]int") || recursive(callsOf(t, "l21_lazy.go"), "SettledHeap", 6) {
		t.Error("pending cells are freed without a queue")
	}
	if !hasField(t, "l22_block.go", "Memory", "Free", "[]int") || !hasSignature(t, "l22_block.go", signature{of: "Memory", params: "int", result: "int"}) {
		t.Error("blocks are found without free lists in the blocks themselves")
	}
	if !hasSignature(t, "l23_encode.go", signature{of: "encoder", params: "int", result: ""}) || !hasSignature(t, "l23_encode.go", signature{of: "decoder", params: "", result: "int"}) || !hasField(t, "l23_encode.go", "decoder", "at", "int") {
		t.Error("bytes are made and read without a writer and a reader with a position")
	}
	if !recursive(callsOf(t, "l24_text.go"), "ParseExpr", 4) || !hasField(t, "l24_text.go", "parser", "at", "int") {
		t.Error("texts are read without a recursive descent parser")
	}
	if !hasSignature(t, "l25_verify.go", signature{params: "[]fact, []fact", result: "bool"}) || countsDown(t, "l25_verify.go") {
		t.Error("images are verified without forward data flow and joins")
	}
	// The specification suggests a map from commands to function values, which the subset leaves out: there a table is a switch.
	if !chooses(t, "l26_session.go", 6) {
		t.Error("the commands of a session are not in a table")
	}
}
