package tests

import (
	"testing"

	"loop.example/refcountml/impl"
)

// heapIn returns the heap of a valid memory.
func heapIn(t *testing.T, m impl.Memory) []impl.Cell {
	t.Helper()
	out, ok := impl.HeapOf(m)
	if !ok {
		t.Fatalf("HeapOf(%v) fails", m)
	}
	return out
}

// memoryRule is a memory, and the text of its heap; "" if it is not valid.
type memoryRule struct {
	m    impl.Memory
	heap string
}

// memoryRules returns memories that are valid, or nearly so.
func memoryRules() []memoryRule {
	return []memoryRule{
		{memory(0, 0, 0, 0), "{}"}, {impl.Memory{}, ""}, {impl.Memory{Free: make([]int, 3)}, ""}, {impl.Memory{Free: make([]int, 5)}, ""}, {impl.Memory{Words: []int{1, 0}}, ""},
		// Blocks without gaps, each with a count, a head and its fields.
		{memory(1, 0, 0, 0, 0, 0), "{1:0()}"}, {memory(1, 4, 0, 0, 0, 0), "{1:1()}"}, {memory(1, 1, 7, 0, 0, 0, 0), "{1:0(7)}"}, {memory(1, 6, 7, -8, 0, 0, 0, 0), "{1:1(7 -8)}"}, {memory(1, 11, 7, -8, 9, 0, 0, 0, 0), "{1:2(7 -8 9)}"}, {memory(1, 0, 2, 4, 3, 8, 0, 0, 0, 0), "{1:0() 2:1() 3:2()}"}, {memory(1, 1, 5, 1, 2, 6, 7, 1, 0, 0, 0, 0, 0), "{1:0(5) 1:0(6 7) 1:0()}"},
		{memory(1, 0, 0, 0, 0), ""}, {memory(1, 1, 0, 0, 0, 0), ""}, {memory(1, 3, 7, 7, 0, 0, 0, 0), ""}, {memory(1, 0, 7, 0, 0, 0, 0), ""}, {memory(1, 2, 7, 0, 0, 0, 0), ""}, {memory(1, 0, 1, 0, 0, 0, 0), ""}, {memory(1, 0, 1, 1, 0, 0, 0, 0), ""}, {memory(1, 1, 7, 8, 0, 0, 0, 0), ""},
		// Counts and heads below 0, and beyond what they can be.
		{memory(-1, 0, 0, 0, 0, 0), ""}, {memory(-1<<63, 0, 0, 0, 0, 0), ""}, {memory(999999, 0, 0, 0, 0, 0), "{999999:0()}"}, {memory(1000000, 0, 0, 0, 0, 0), ""}, {memory(1<<63-1, 0, 0, 0, 0, 0), ""},
		{memory(1, -1, 0, 0, 0, 0), ""}, {memory(1, -4, 0, 0, 0, 0), ""}, {memory(1, -1<<63, 0, 0, 0, 0), ""}, {memory(1, 396, 0, 0, 0, 0), "{1:99()}"}, {memory(1, 397, 5, 0, 0, 0, 0), "{1:99(5)}"}, {memory(1, 400, 0, 0, 0, 0), ""}, {memory(1, 1<<62, 0, 0, 0, 0), ""}, {memory(1, 1<<63-1, 1, 2, 3, 0, 0, 0, 0), ""}, {memory(0, -4, 1, 0, 0, 0), ""}, {memory(0, 1<<62, 1, 0, 0, 0), ""},
		// Fields are integers, or pointers to blocks that are not free, and these are counted often enough.
		{memory(1, 1, 999, 0, 0, 0, 0), "{1:0(999)}"}, {memory(1, 1, -999, 0, 0, 0, 0), "{1:0(-999)}"}, {memory(1, 1, -1000, 0, 0, 0, 0), ""}, {memory(1, 1, -1<<63, 0, 0, 0, 0), ""}, {memory(1, 1, 1<<63-1, 0, 0, 0, 0), ""},
		{memory(1, 0, 1, 1, 1000, 0, 0, 0, 0), "{1:0() 1:0(1000)}"}, {memory(1, 1, 5, 1, 1, 1000, 0, 0, 0, 0), "{1:0(5) 1:0(1000)}"}, {memory(1, 1, 1003, 1, 0, 0, 0, 0, 0), "{1:0(1001) 1:0()}"}, {memory(1, 3, 1, 2, 3, 1, 1, 1008, 1, 0, 0, 0, 0, 0), "{1:0(1 2 3) 1:0(1002) 1:0()}"},
		{memory(1, 0, 1, 1, 1001, 0, 0, 0, 0), ""}, {memory(1, 0, 1, 1, 1002, 0, 0, 0, 0), ""}, {memory(1, 0, 1, 1, 1003, 0, 0, 0, 0), ""}, {memory(1, 0, 1, 1, 1004, 0, 0, 0, 0), ""}, {memory(1, 0, 1, 1, 1005, 0, 0, 0, 0), ""},
		{memory(1, 0, 1, 2, 1000, 1000, 0, 0, 0, 0), ""}, {memory(2, 0, 1, 2, 1000, 1000, 0, 0, 0, 0), "{2:0() 1:0(1000 1000)}"}, {memory(0, 0, 1, 1, 1000, 1, 0, 0, 0), ""}, {memory(1, 1, 1003, 0, 0, 4, 0, 0, 0), ""},
		{memory(1, 1, 1003, 1, 1, 1000, 0, 0, 0, 0), ""}, {memory(1, 1, 1000, 0, 0, 0, 0), ""},
		// Free blocks, whose fields are 0; those at the end are no cells.
		{memory(0, 0, 1, 0, 0, 0), "{}"}, {memory(0, 1, 0, 0, 1, 0, 0), "{}"}, {memory(0, 2, 0, 0, 0, 0, 1, 0), "{}"}, {memory(0, 3, 0, 0, 0, 0, 0, 0, 1), "{}"}, {memory(0, 1, 5, 0, 1, 0, 0), ""}, {memory(0, 3, 0, 0, 1000, 0, 0, 0, 1), ""}, {memory(0, 2, 0, -1, 0, 0, 1, 0), ""},
		{memory(0, 0, 1, 0, 1, 0, 0, 0), "{free 1:0()}"}, {memory(1, 0, 0, 0, 3, 0, 0, 0), "{1:0()}"}, {memory(0, 2, 0, 0, 1, 1, 6, 0, 0, 1, 0), "{free 1:0(6)}"},
		// Free lists name each free block of their size once, in any order.
		{memory(0, 0, 0, 0, 0, 0), ""}, {memory(0, 0, 0, 1, 0, 0), ""}, {memory(0, 1, 0, 1, 0, 0, 0), ""}, {memory(0, 0, 1, 1, 0, 0), ""}, {memory(1, 0, 1, 0, 0, 0), ""}, {memory(0, 0, 2, 0, 0, 0), ""}, {memory(0, 0, 3, 0, 0, 0), ""}, {memory(0, 0, -1, 0, 0, 0), ""}, {memory(0, 0, 1<<62, 0, 0, 0), ""}, {memory(0, 0, -1<<63, 0, 0, 0), ""}, {memory(0, 0, 1<<63-1, 0, 0, 0), ""}, {memory(1, 0, 0, 0, 1, 0), ""}, {memory(1, 0, 0, 0, 0, 3), ""},
		{memory(0, 0, 0, 4, 3, 0, 0, 0), "{}"}, {memory(0, 12, 0, 0, 1, 0, 0, 0), "{}"}, {memory(0, 0, 0, 0, 1, 0, 0, 0), ""}, {memory(0, 0, 0, 0, 3, 0, 0, 0), ""}, {memory(0, 4, 1, 0, 0, 0), ""}, {memory(0, 12, 0, 4, 1, 0, 0, 0), ""}, {memory(0, 12, 0, 4, 3, 0, 0, 0), ""}, {memory(0, 0, 0, 12, 1, 0, 0, 0), ""}, {memory(0, 12, 0, 12, 1, 0, 0, 0), ""},
		{memory(0, 0, 0, 4, 0, 12, 5, 0, 0, 0), "{}"}, {memory(0, 0, 0, 4, 0, 4, 5, 0, 0, 0), ""}, {memory(0, 20, 0, 4, 0, 0, 3, 0, 0, 0), "{}"}, {memory(0, 20, 0, 20, 0, 0, 3, 0, 0, 0), ""}, {memory(0, 12, 1, 0, 1, 0, 0, 0), ""}, {memory(0, 8, 0, 0, 1, 0, 0, 0), ""},
		{memory(0, 0, 0, 1, 0, 1, 3, 0, 0), "{}"}, {memory(0, 12, 0, 1, 0, 1, 0, 0, 0), ""}, {memory(0, 0, 0, 5, 0, 1, 3, 0, 0), ""}, {memory(0, 1, 0, 0, 17, 0, 0, 4, 0, 0), ""}, {memory(0, 17, 0, 0, 1, 0, 0, 1, 0, 0), "{}"}, {memory(0, 1, 0, 0, 5, 0, 0, 4, 0, 0), "{}"},
	}
}

func TestValidMemoryOfTheRules(t *testing.T) {
	for _, c := range memoryRules() {
		want := c.heap != ""
		meant, fits := heapMeaning(c.m)
		if impl.ValidMemory(c.m) != want || fits != want {
			t.Errorf("ValidMemory(%v) = %v, and in the second way %v", c.m, impl.ValidMemory(c.m), fits)
			continue
		}
		if h, ok := impl.HeapOf(c.m); ok != want || want && (showHeap(h) != c.heap || showHeap(meant) != c.heap) {
			t.Errorf("HeapOf(%v) = %s, %v, want %s", c.m, showHeap(h), ok, c.heap)
		}
	}
}

func TestValidMemoryAgreesWithTheSecondWay(t *testing.T) {
	k := maker{seed: 2202}
	valid, not := 0, 0
	for _, m := range memories() {
		if !impl.ValidMemory(m) {
			t.Fatalf("ValidMemory(%v) = false", m)
		}
		for try := 0; try < 12; try++ {
			other := k.spoiltMemory(m)
			want, fits := heapMeaning(other)
			if impl.ValidMemory(other) != fits {
				t.Fatalf("ValidMemory(%v) = %v", other, !fits)
			}
			if !fits {
				not++
				failsOnMemory(t, other)
				continue
			}
			valid++
			if h := heapIn(t, other); text(h) != text(want) {
				t.Fatalf("HeapOf(%v) = %v, want %v", other, h, want)
			}
		}
	}
	if valid < 1500 || not < 5000 {
		t.Errorf("%d memories are valid, and %d are not", valid, not)
	}
}

// failsToAllocBlock tells if AllocBlock makes a block that it should not.
func failsToAllocBlock(t *testing.T, m impl.Memory, tag int, fields ...int) {
	t.Helper()
	if out, w := impl.AllocBlock(m, tag, fields); w != 0 || text(out) != text(impl.Memory{}) {
		t.Fatalf("AllocBlock(%.200s, %d, %.100s) = %v, %d", text(m), tag, text(fields), out, w)
	}
}

// failsToCountBlock tells if DropBlock takes a word that it should not, or DupBlock, if this should not, either.
func failsToCountBlock(t *testing.T, m impl.Memory, w int, dups bool) {
	t.Helper()
	if out, ok := impl.DropBlock(m, w); ok || text(out) != text(impl.Memory{}) {
		t.Fatalf("DropBlock(%.200s, %d) = %v, %v", text(m), w, out, ok)
	}
	if out, ok := impl.DupBlock(m, w); dups && (ok || text(out) != text(impl.Memory{})) {
		t.Fatalf("DupBlock(%.200s, %d) = %v, %v", text(m), w, out, ok)
	}
}

// failsOnMemory tells if a function of memories takes one that is not valid.
func failsOnMemory(t *testing.T, m impl.Memory) {
	t.Helper()
	if h, ok := impl.HeapOf(m); ok || len(h) > 0 {
		t.Fatalf("HeapOf(%.200s) = %v, %v", text(m), h, ok)
	}
	for _, w := range []int{0, 5, 1000, 1001, 1002, 1003} {
		if i := impl.CellOf(m, w); i != -1 {
			t.Fatalf("CellOf(%.200s, %d) = %d", text(m), w, i)
		}
		failsToCountBlock(t, m, w, true)
	}
	failsToAllocBlock(t, m, 0)
	failsToAllocBlock(t, m, 0, 1, 2, 3)
}

func TestMemoriesOfInvalidArguments(t *testing.T) {
	for _, c := range memoryRules() {
		if c.heap == "" {
			failsOnMemory(t, c.m)
		}
	}
	for _, m := range memories() {
		for at := -3; at < len(m.Words)+2; at++ {
			starts := false
			addresses, _ := addressesIn(m.Words)
			if has(addresses, at) {
				starts = m.Words[at] > 0
			}
			if w := 1000 + at; !starts && w >= 1000 {
				failsToCountBlock(t, m, w, true)
				failsToAllocBlock(t, m, 0, w)
				if i := impl.CellOf(m, w); i != -1 {
					t.Fatalf("CellOf(%v, %d) = %d", m, w, i)
				}
			}
		}
		for _, w := range []int{-1000, 1 << 62, -1 << 63, 1<<63 - 1} {
			failsToCountBlock(t, m, w, true)
			failsToAllocBlock(t, m, 0, 5, 6, w)
		}
		for _, tag := range []int{-1, 100, 1 << 62, -1 << 63, 1<<63 - 1} {
			failsToAllocBlock(t, m, tag)
			failsToAllocBlock(t, m, tag, 5)
		}
		failsToAllocBlock(t, m, 0, 1, 2, 3, 4)
		failsToAllocBlock(t, m, 0, make([]int, 1000)...)
	}
}

func TestBlocksOfTheRules(t *testing.T) {
	// Two free blocks with two fields, and between them one without, and one that is not free.
	m := memory(0, 42, 0, 0, 0, 0, 2, 5, 7, 0, 2, 0, 0, 5, 0, 1, 0)
	if !impl.ValidMemory(m) {
		t.Fatalf("ValidMemory(%v) = false", m)
	}
	for _, c := range []struct {
		tag    int
		fields []int
		want   impl.Memory
		w      int
	}{
		{9, []int{1, 2}, memory(1, 38, 1, 2, 0, 0, 2, 5, 7, 0, 2, 0, 0, 5, 0, 10, 0), 1000},
		{0, nil, memory(0, 42, 0, 0, 1, 0, 2, 5, 7, 0, 2, 0, 0, 0, 0, 1, 0), 1004},
		{99, nil, memory(0, 42, 0, 0, 1, 396, 2, 5, 7, 0, 2, 0, 0, 0, 0, 1, 0), 1004},
		{1, []int{4}, memory(0, 42, 0, 0, 0, 0, 2, 5, 7, 0, 2, 0, 0, 1, 5, 4, 5, 0, 1, 0), 1013},
		{1, []int{1006}, memory(0, 42, 0, 0, 0, 0, 2, 5, 7, 0, 2, 0, 0, 1, 5, 1006, 5, 0, 1, 0), 1013},
		{0, []int{1006, 8, 1006}, memory(0, 42, 0, 0, 0, 0, 2, 5, 7, 0, 2, 0, 0, 1, 3, 1006, 8, 1006, 5, 0, 1, 0), 1013},
		{0, []int{1006, 1006}, memory(1, 2, 1006, 1006, 0, 0, 2, 5, 7, 0, 2, 0, 0, 5, 0, 10, 0), 1000},
	} {
		out, w := impl.AllocBlock(m, c.tag, c.fields)
		if w != c.w || text(out) != text(c.want) {
			t.Errorf("AllocBlock(%v, %d, %v) = %v, %d, want %v, %d", m, c.tag, c.fields, out, w, c.want, c.w)
		}
	}
	// More references than there are, and pointers to free blocks, also to the one that would be taken, and to the end.
	for _, fields := range [][]int{{1006, 1006, 1006}, {1000, 1}, {1009}, {1004}, {1013}, {1007}} {
		failsToAllocBlock(t, m, 0, fields...)
	}
	up, ok := impl.DupBlock(m, 1006)
	if want := memory(0, 42, 0, 0, 0, 0, 3, 5, 7, 0, 2, 0, 0, 5, 0, 1, 0); !ok || text(up) != text(want) {
		t.Errorf("DupBlock = %v, want %v", up, want)
	}
	down, ok := impl.DropBlock(m, 1006)
	if want := memory(0, 42, 0, 0, 0, 0, 1, 5, 7, 0, 2, 0, 0, 5, 0, 1, 0); !ok || text(down) != text(want) {
		t.Errorf("DropBlock = %v, want %v", down, want)
	}
	gone, ok := impl.DropBlock(down, 1006)
	if want := memory(0, 42, 0, 0, 0, 0, 0, 1, 0, 0, 2, 0, 0, 5, 7, 1, 0); !ok || text(gone) != text(want) {
		t.Errorf("DropBlock = %v, want %v", gone, want)
	}
	for _, w := range []int{0, 999, -999} {
		more, fine := impl.DupBlock(m, w)
		less, well := impl.DropBlock(m, w)
		if !fine || !well || text(more) != text(m) || text(less) != text(m) {
			t.Errorf("DupBlock and DropBlock of %d = %v, %v", w, more, less)
		}
	}
	// Counts at their limit.
	full := memory(999999, 0, 999998, 0, 0, 0, 0, 0)
	if out, ok := impl.DupBlock(full, 1000); ok || text(out) != text(impl.Memory{}) {
		t.Errorf("DupBlock of a full count = %v", out)
	}
	if out, ok := impl.DupBlock(full, 1002); !ok || out.Words[2] != 999999 {
		t.Errorf("DupBlock of a count that is nearly full = %v", out)
	}
	if out, ok := impl.DropBlock(full, 1000); !ok || out.Words[0] != 999998 {
		t.Errorf("DropBlock of a full count = %v", out)
	}
	// Blocks to which fields alone point.
	inner := memory(2, 0, 1, 2, 1000, 1000, 0, 0, 0, 0)
	failsToCountBlock(t, inner, 1000, false)
	if out, ok := impl.DupBlock(inner, 1000); !ok || out.Words[0] != 3 {
		t.Errorf("DupBlock = %v", out)
	}
}

// The fields of a block are dropped one after the other, each one with all that it frees, and a free block comes before those that are freed later.
func TestOrderOfDroppedBlocks(t *testing.T) {
	// The block at 0 points to those at 4 and 7, of which the first one points to that at 10, and the second one to that at 12.
	m := memory(1, 2, 1004, 1007, 1, 1, 1010, 1, 1, 1012, 1, 0, 1, 0, 0, 0, 0, 0)
	out, ok := impl.DropBlock(m, 1000)
	// The block at 10 is freed before that at 12, and the one at 4 before that at 7.
	if want := memory(0, 2, 0, 0, 0, 1, 0, 0, 21, 0, 0, 0, 0, 44, 13, 8, 1, 0); !ok || text(out) != text(want) {
		t.Errorf("DropBlock = %v, want %v", out, want)
	}
	// All blocks have one size: the first field, and what it frees, comes before the second one.
	same := memory(1, 2, 1004, 1008, 1, 2, 1012, 0, 1, 2, 0, 0, 1, 2, 0, 0, 0, 0, 0, 0)
	out, ok = impl.DropBlock(same, 1000)
	if !ok || text(freeBlocks(out, 2)) != "[8 12 4 0]" {
		t.Errorf("DropBlock frees %v", freeBlocks(out, 2))
	}
	// A block to which two fields point is freed by the second one, and one of which something is left is not.
	twice := memory(1, 3, 1005, 1007, 1005, 2, 0, 2, 0, 0, 0, 0, 0)
	out, ok = impl.DropBlock(twice, 1000)
	if want := memory(0, 3, 0, 0, 0, 0, 0, 1, 0, 6, 0, 0, 1); !ok || text(out) != text(want) {
		t.Errorf("DropBlock = %v, want %v", out, want)
	}
	// What was free before comes after what is freed now.
	before := memory(0, 0, 1, 1, 1005, 1, 0, 0, 4, 8, 0, 0, 0)
	out, ok = impl.DropBlock(before, 1002)
	if !ok || text(freeBlocks(out, 0)) != "[5 7 0]" || text(freeBlocks(out, 1)) != "[2]" {
		t.Errorf("DropBlock = %v, which frees %v", out, freeBlocks(out, 0))
	}
}

// memoryChain returns a memory in which each block points to the one before.
func memoryChain(blocks int) impl.Memory {
	out := impl.Memory{Free: make([]int, 4)}
	for i := 0; i < blocks; i++ {
		out.Words = append(out.Words, 1, 1, 1000+3*(i-1))
	}
	out.Words[2] = 0
	return out
}

// A memory that is large must be read and freed without a deep recursion.
func TestLargeMemories(t *testing.T) {
	size := 150000
	m := memoryChain(size)
	if h := heapIn(t, m); len(h) != size || impl.CellOf(m, 1000+3*(size-1)) != size-1 {
		t.Errorf("HeapOf has %d cells", len(h))
	}
	out, ok := impl.DropBlock(m, 1000+3*(size-1))
	if list := freeBlocks(out, 1); !ok || len(list) != size || list[0] != 0 || list[size-1] != 3*(size-1) || len(heapIn(t, out)) != 0 {
		t.Errorf("DropBlock frees %d blocks", len(list))
	}
	again, w := impl.AllocBlock(out, 5, []int{4})
	if w != 1000 || again.Free[1] != 4 || len(again.Words) != 3*size {
		t.Errorf("AllocBlock = %d", w)
	}
	// A circle of free blocks is found, however large it is.
	out.Words[3*(size-1)+1] = 4 + 1
	if impl.ValidMemory(out) {
		t.Error("ValidMemory with a free list that goes in a circle")
	}
}

func TestP205MemoriesHaveHeaps(t *testing.T) {
	if !impl.ValidMemory(memory(0, 0, 0, 0)) || len(heapIn(t, memory(0, 0, 0, 0))) != 0 {
		t.Error("the empty memory is not valid")
	}
	for _, m := range memories() {
		want, _ := heapMeaning(m)
		if h := heapIn(t, m); !impl.ValidHeap(h) || text(h) != text(want) {
			t.Fatalf("HeapOf(%v) = %v, want %v", m, h, want)
		}
	}
}

func TestP206EachLiveCellHasWords(t *testing.T) {
	equal, more := 0, 0
	for _, m := range memories() {
		words := 0
		for _, c := range heapIn(t, m) {
			if c.Count > 0 {
				words += 2 + len(c.Fields)
			}
		}
		switch {
		case words > len(m.Words):
			t.Fatalf("the memory %v has fewer words than its live cells need", m)
		case words == len(m.Words):
			equal++
		default:
			more++
		}
	}
	if equal < 30 || more < 500 {
		t.Errorf("%d memories have as many words as their live cells need, and %d have more", equal, more)
	}
}

func TestP207PointersLeadToLiveCells(t *testing.T) {
	found := 0
	for _, m := range memories() {
		h := heapIn(t, m)
		for at := range m.Words {
			i := impl.CellOf(m, 1000+at)
			if i == -1 {
				continue
			}
			found++
			if i < 0 || i >= len(h) || h[i].Count != m.Words[at] || h[i].Count <= 0 || addressOf(m, i) != at {
				t.Fatalf("CellOf(%v, %d) = %d", m, 1000+at, i)
			}
		}
	}
	if found < 3000 {
		t.Errorf("only %d pointers lead to live cells", found)
	}
}

func TestP208EachLiveCellHasOnePointer(t *testing.T) {
	for _, m := range memories() {
		many := 0
		for w := 995; w < 1002+len(m.Words); w++ {
			if impl.CellOf(m, w) != -1 {
				many++
			}
		}
		if many != impl.LiveCells(heapIn(t, m)) {
			t.Fatalf("CellOf(%v) is not -1 for %d words", m, many)
		}
	}
}

// eachAllocBlock calls a function for memories and what AllocBlock makes of them for fields for which it succeeds.
func eachAllocBlock(t *testing.T, check func(m impl.Memory, tag int, fields []int, out impl.Memory, w int)) {
	t.Helper()
	k := maker{seed: 2203}
	made, failed := 0, 0
	for _, m := range memories() {
		h := heapIn(t, m)
		for try := 0; try < 5; try++ {
			tag := k.pick(100)
			var fields, words []int
			for n := k.pick(4); n > 0; n-- {
				w := k.wordTo(k.order(len(h)))
				words = append(words, w)
				if w >= 1000 {
					w = 1000 + addressOf(m, w-1000)
				}
				fields = append(fields, w)
			}
			out, w := impl.AllocBlock(m, tag, fields)
			if want := mayTake(h, words); (w != 0) != want {
				t.Fatalf("AllocBlock(%v, %d, %v) = %v, %d", m, tag, fields, out, w)
			}
			if w == 0 {
				failed++
				failsToAllocBlock(t, m, tag, fields...)
			} else {
				made++
				check(m, tag, fields, out, w)
			}
		}
	}
	if made < 3000 || failed < 500 {
		t.Errorf("%d blocks are made, and %d are not", made, failed)
	}
}

func TestP209NewBlocksHaveWhatTheyAreGiven(t *testing.T) {
	eachAllocBlock(t, func(m impl.Memory, tag int, fields []int, out impl.Memory, w int) {
		before, now := heapIn(t, m), heapIn(t, out)
		i := impl.CellOf(out, w)
		if !impl.ValidMemory(out) || i < 0 || impl.LiveCells(now) != impl.LiveCells(before)+1 || now[i].Count != 1 || now[i].Tag != tag || len(now[i].Fields) != len(fields) {
			t.Fatalf("AllocBlock(%v, %d, %v) = %v, %d", m, tag, fields, out, w)
		}
		at := w - 1000
		if out.Words[at+1] != 4*tag+len(fields) || !sameList(fieldsIn(out.Words, at), fields) {
			t.Fatalf("AllocBlock(%v, %d, %v) = %v, %d", m, tag, fields, out, w)
		}
		// Nothing else changes.
		for k, word := range m.Words {
			if (k < at || k >= at+2+len(fields)) && out.Words[k] != word {
				t.Fatalf("AllocBlock(%v, %d, %v) = %v, %d", m, tag, fields, out, w)
			}
		}
	})
}

func TestP210FreeBlocksOfTheSizeAreUsedFirst(t *testing.T) {
	used, longer := 0, 0
	eachAllocBlock(t, func(m impl.Memory, tag int, fields []int, out impl.Memory, w int) {
		size := len(fields)
		list := freeBlocks(m, size)
		grown := len(out.Words) - len(m.Words)
		for k := range m.Free {
			if k != size && out.Free[k] != m.Free[k] {
				t.Fatalf("AllocBlock(%v, %d, %v) = %v, %d", m, tag, fields, out, w)
			}
		}
		if m.Free[size] == 0 {
			longer++
			if grown != 2+size || w != 1000+len(m.Words) || out.Free[size] != 0 {
				t.Fatalf("AllocBlock(%v, %d, %v) = %v, %d", m, tag, fields, out, w)
			}
			return
		}
		used++
		if grown != 0 || w != 1000+list[0] || text(freeBlocks(out, size)) != text(list[1:]) {
			t.Fatalf("AllocBlock(%v, %d, %v) = %v, %d", m, tag, fields, out, w)
		}
	})
	if used < 500 || longer < 500 {
		t.Errorf("%d free blocks are used, and %d times the memory becomes longer", used, longer)
	}
}

func TestP211WhatWasMadeCanBeUndone(t *testing.T) {
	undone := 0
	eachAllocBlock(t, func(m impl.Memory, tag int, fields []int, out impl.Memory, w int) {
		for _, field := range fields {
			if field >= 1000 {
				return
			}
		}
		undone++
		back, ok := impl.DropBlock(out, w)
		if !ok || freeBlocks(back, len(fields))[0] != w-1000 || text(heapIn(t, back)) != text(heapIn(t, m)) {
			t.Fatalf("DropBlock of AllocBlock(%v, %d, %v) = %v, %v", m, tag, fields, back, ok)
		}
		if len(back.Words) == len(m.Words) && text(back) != text(m) {
			t.Fatalf("DropBlock of AllocBlock(%v, %d, %v) = %v", m, tag, fields, back)
		}
	})
	if undone < 1000 {
		t.Errorf("only %d blocks have integers alone", undone)
	}
}

// eachPointer calls a function for each pointer to a live block of each memory, with its cell.
func eachPointer(t *testing.T, check func(m impl.Memory, w int, h []impl.Cell, i int)) {
	t.Helper()
	many := 0
	for _, m := range memories() {
		h := heapIn(t, m)
		for i, c := range h {
			if c.Count > 0 {
				many++
				check(m, 1000+addressOf(m, i), h, i)
			}
		}
	}
	if many < 3000 {
		t.Errorf("there are only %d pointers", many)
	}
}

func TestP212CountsOfBlocksAreCountsOfCells(t *testing.T) {
	eachPointer(t, func(m impl.Memory, w int, h []impl.Cell, i int) {
		out, ok := impl.DupBlock(m, w)
		want, fine := impl.DupWord(h, 1000+i)
		if ok != fine {
			t.Fatalf("DupBlock(%v, %d) = %v, %v", m, w, out, ok)
		}
		if ok && text(heapIn(t, out)) != text(want) {
			t.Fatalf("HeapOf DupBlock(%v, %d) = %v, want %v", m, w, heapIn(t, out), want)
		}
	})
}

func TestP213AReferenceMoreCanBeGivenUp(t *testing.T) {
	eachPointer(t, func(m impl.Memory, w int, h []impl.Cell, i int) {
		for _, w := range []int{w, 7} {
			more, ok := impl.DupBlock(m, w)
			if !ok {
				continue
			}
			if out, ok := impl.DropBlock(more, w); !ok || text(out) != text(m) {
				t.Fatalf("DropBlock of DupBlock(%v, %d) = %v, %v", m, w, out, ok)
			}
		}
	})
}

func TestP214DroppedBlocksAreDroppedCells(t *testing.T) {
	dropped, inner, freed := 0, 0, 0
	eachPointer(t, func(m impl.Memory, w int, h []impl.Cell, i int) {
		out, ok := impl.DropBlock(m, w)
		want, fine := impl.DropWord(h, 1000+i)
		if ok != fine {
			t.Fatalf("DropBlock(%v, %d) = %v, %v", m, w, out, ok)
		}
		if !ok {
			inner++
			failsToCountBlock(t, m, w, false)
			return
		}
		dropped++
		meant := copyMemory(m)
		dropBlockMeaning(meant, w)
		if text(heapIn(t, out)) != text(want) || len(out.Words) != len(m.Words) || text(out) != text(meant) {
			t.Fatalf("DropBlock(%v, %d) = %v, want %v", m, w, out, meant)
		}
		if len(pointers(want)) < len(pointers(h))-1 {
			freed++
		}
	})
	if dropped < 1000 || inner < 300 || freed < 200 {
		t.Errorf("%d blocks are dropped, %d cannot be, and %d free others", dropped, inner, freed)
	}
}

func TestP215WhatIsFreedCanBeUsedAgain(t *testing.T) {
	again := 0
	eachPointer(t, func(m impl.Memory, w int, h []impl.Cell, i int) {
		out, ok := impl.DropBlock(m, w)
		if !ok || out.Words[w-1000] > 0 {
			return
		}
		again++
		fields := make([]int, len(h[i].Fields))
		made, at := impl.AllocBlock(out, 3, fields)
		// The block itself need not be the first free one of its size any more, as its fields are dropped after it.
		if at == 0 || len(made.Words) != len(m.Words) || out.Words[at-1000] != 0 {
			t.Fatalf("AllocBlock of DropBlock(%v, %d) = %v, %d", m, w, made, at)
		}
	})
	if again < 300 {
		t.Errorf("only %d blocks are freed", again)
	}
}
