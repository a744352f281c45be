package tests

import (
	"testing"

	"loop.example/refcountml/impl"
)

// heapRule is a heap, and whether it is valid.
type heapRule struct {
	h  []impl.Cell
	ok bool
}

// heapRules returns heaps that are valid, or nearly so.
func heapRules() []heapRule {
	one := live(1, 0)
	return []heapRule{
		{nil, true}, {heap(), true},
		// Counts, which also tell what a cell is.
		{heap(one), true}, {heap(live(999999, 0)), true}, {heap(live(1000000, 0)), false}, {heap(live(-2, 0)), false}, {heap(live(1<<63-1, 0)), false}, {heap(live(-1<<63, 0)), false},
		{heap(live(-2, 0), one), false}, {heap(live(1000000, 0), one), false},
		// Tags.
		{heap(live(1, 99)), true}, {heap(live(1, 100)), false}, {heap(live(1, -1)), false}, {heap(live(1, 1<<62)), false},
		// Fields, as many as there may be, which are integers or pointers to live cells.
		{heap(live(1, 0, 1, 2, 3)), true}, {heap(live(1, 0, 1, 2, 3, 4)), false}, {heap(live(1, 0, make([]int, 100000)...)), false},
		{heap(live(1, 0, 999, -999)), true}, {heap(live(1, 0, -1000)), false}, {heap(live(1, 0, 1, -1000)), false}, {heap(live(1, 0, -1<<63)), false}, {heap(live(1, 0, 1<<63-1)), false},
		{heap(one, live(1, 0, 1000)), true}, {heap(live(1, 0, 1001), one), true}, {heap(one, live(1, 0, 1002)), false}, {heap(live(1, 0, 1001)), false}, {heap(one, live(1, 0, 0, 0, 1003)), false},
		{heap(free(), live(1, 0, 1000)), false}, {heap(keep(1), live(1, 0, 1000)), false}, {heap(live(1, 0, 1001), keep(0)), false}, {heap(live(1, 0, 1001), free(), one), false}, {heap(free(), live(1, 0, 1002), one), true},
		// Free cells, and free cells at the end.
		{heap(free()), false}, {heap(free(), one), true}, {heap(free(), free(), free(), one), true}, {heap(one, free()), false}, {heap(one, free(), free()), false}, {heap(one, free(), one), true}, {heap(free(), keep(0)), true}, {heap(keep(0), free()), false},
		{heap(live(0, 1), one), false}, {heap(live(0, 0, 0), one), false}, {heap(live(0, -1), one), false}, {heap(live(0, 0, 1001), one), false},
		// Kept cells.
		{heap(keep(0)), true}, {heap(keep(1)), true}, {heap(keep(2)), true}, {heap(keep(3)), true}, {heap(keep(4)), false}, {heap(keep(100000)), false},
		{heap(live(-1, 1)), false}, {heap(live(-1, -1)), false}, {heap(live(-1, 0, 1)), false}, {heap(live(-1, 0, 0, -1)), false}, {heap(live(-1, 0, 0, 0, 1)), false}, {heap(one, live(-1, 0, 1000)), false}, {heap(one, keep(2), keep(0)), true},
		// Counts are at least the numbers of fields that point to a cell.
		{heap(one, live(1, 0, 1000, 1000)), false}, {heap(live(2, 0), live(1, 0, 1000, 1000)), true}, {heap(live(3, 0), live(1, 0, 1000, 1000)), true}, {heap(one, live(1, 0, 1000), live(1, 0, 1000)), false}, {heap(live(2, 0), live(1, 0, 1000), live(1, 0, 1000)), true},
		{heap(live(1, 0, 1001, 1001, 1001), live(3, 0)), true}, {heap(live(1, 0, 1001, 1001, 1001), live(2, 0)), false},
		// Circles of all sizes, whatever the counts are, and with tails on both sides.
		{heap(live(1, 0, 1000)), false}, {heap(live(2, 0, 1000)), false}, {heap(live(9, 0, 0, 1000)), false}, {heap(one, live(2, 0, 1000, 1001)), false}, {heap(live(3, 0, 1000, 1000)), false},
		{heap(live(1, 0, 1001), live(1, 0, 1000)), false}, {heap(live(2, 0, 1001), live(2, 0, 1000)), false}, {heap(live(2, 0, 1001), one), true},
		{heap(live(5, 0, 1001), live(5, 0, 1002), live(5, 0, 1000)), false}, {heap(live(5, 0, 1001), live(5, 0, 1002), live(5, 0)), true}, {heap(live(5, 0, 1002), live(5, 0, 1000), live(5, 0, 1001)), false},
		{heap(live(5, 0, 1001), live(5, 0, 1002), live(5, 0, 1001)), false}, {heap(live(5, 0, 1001), live(5, 0, 1000, 1002), live(5, 0)), false}, {heap(live(5, 0, 1001, 1002), live(5, 0, 1003), live(5, 0, 1003), live(5, 0)), true}, {heap(live(5, 0, 1001, 1002), live(5, 0, 1003), live(5, 0, 1003), live(5, 0, 1000)), false},
		{heap(keep(1), free(), live(5, 0, 1003), live(5, 0, 1002)), false}, {heap(one, live(5, 0, 1002), live(5, 0, 1001), one), false},
	}
}

func TestValidHeapOfTheRules(t *testing.T) {
	for _, c := range heapRules() {
		if got := impl.ValidHeap(c.h); got != c.ok || heapFits(c.h) != c.ok {
			t.Errorf("ValidHeap(%.200s) = %v", text(c.h), got)
		}
	}
}

func TestValidHeapAgreesWithTheSecondWay(t *testing.T) {
	m := maker{seed: 8}
	valid, not, round := 0, 0, 0
	for _, h := range heaps() {
		if !impl.ValidHeap(h) {
			t.Fatalf("ValidHeap(%v) = false", h)
		}
		for try := 0; try < 12; try++ {
			other := m.spoiltHeap(h)
			want := heapFits(other)
			if impl.ValidHeap(other) != want {
				t.Fatalf("ValidHeap(%v) = %v", other, !want)
			}
			if want {
				valid++
			} else {
				not++
			}
		}
	}
	// Pointers between live cells, however they go.
	for try := 0; try < 5000; try++ {
		var h []impl.Cell
		for i := 0; i < 5; i++ {
			h = append(h, live(9, 0))
			for k := m.pick(3); k > 0; k-- {
				h[i].Fields = append(h[i].Fields, 1000+m.pick(5))
			}
		}
		want := heapFits(h)
		if impl.ValidHeap(h) != want {
			t.Fatalf("ValidHeap(%v) = %v", h, !want)
		}
		if !want {
			round++
		}
	}
	if valid < 3000 || not < 3000 || round < 1000 || round > 4500 {
		t.Errorf("%d heaps are valid, %d are not, and %d have circles", valid, not, round)
	}
}

// failsOnHeap tells if a function of heaps takes a heap that is not valid.
func failsOnHeap(t *testing.T, h []impl.Cell) {
	t.Helper()
	if n := impl.LiveCells(h); n != -1 {
		t.Errorf("LiveCells(%.200s) = %d", text(h), n)
	}
	for at := -1; at <= 2; at++ {
		if n := impl.RefsOf(h, at); n != -1 {
			t.Errorf("RefsOf(%.200s, %d) = %d", text(h), at, n)
		}
	}
	if out := impl.ReachOf(h, []int{1000, 1001, 5}); len(out) > 0 {
		t.Errorf("ReachOf(%.200s) = %v", text(h), out)
	}
	for _, w := range []int{0, 7, 1000, 1001, 1002} {
		failsToAlloc(t, h, 0, w)
		failsToDup(t, h, w)
		failsToDrop(t, h, w)
	}
	failsToAlloc(t, h, 0)
}

// failsToAlloc tells if AllocCell makes a cell that it should not.
func failsToAlloc(t *testing.T, h []impl.Cell, tag int, fields ...int) {
	t.Helper()
	if out, w := impl.AllocCell(h, tag, fields); w != 0 || len(out) > 0 {
		t.Errorf("AllocCell(%.200s, %d, %.100s) = %v, %d", text(h), tag, text(fields), out, w)
	}
}

// failsToDup tells if DupWord counts what it should not.
func failsToDup(t *testing.T, h []impl.Cell, w int) {
	t.Helper()
	if out, ok := impl.DupWord(h, w); ok || len(out) > 0 {
		t.Errorf("DupWord(%.200s, %d) = %v, %v", text(h), w, out, ok)
	}
}

// failsToDrop tells if DropWord drops what it should not.
func failsToDrop(t *testing.T, h []impl.Cell, w int) {
	t.Helper()
	if out, ok := impl.DropWord(h, w); ok || len(out) > 0 {
		t.Errorf("DropWord(%.200s, %d) = %v, %v", text(h), w, out, ok)
	}
}

func TestInvalidHeaps(t *testing.T) {
	for _, c := range heapRules() {
		if !c.ok {
			failsOnHeap(t, c.h)
		}
	}
	m := maker{seed: 19}
	for _, h := range heaps() {
		if other := m.spoiltHeap(h); !heapFits(other) {
			failsOnHeap(t, other)
		}
	}
}

// someHeap has a free and a kept cell, a cell to which fields point twice, and one of which the fields do not know.
func someHeap() []impl.Cell {
	return heap(live(2, 1), free(), keep(2), live(3, 2, 1000, 5, 1000), live(1, 3, 1003), live(1, 4, -7))
}

func TestLiveCellsAndRefsOf(t *testing.T) {
	h := someHeap()
	if n := impl.LiveCells(h); n != 4 {
		t.Errorf("LiveCells = %d", n)
	}
	for at, want := range []int{2, -1, -1, 1, 0, 0, -1} {
		if n := impl.RefsOf(h, at); n != want {
			t.Errorf("RefsOf %d = %d, want %d", at, n, want)
		}
	}
	for _, at := range append(oddNumbers(), 1000, 1003) {
		if n := impl.RefsOf(h, at); n != -1 && at != 0 && at != 4 && at != 5 {
			t.Errorf("RefsOf %d = %d", at, n)
		}
	}
	if impl.LiveCells(nil) != 0 || impl.LiveCells(heap(keep(3), keep(0))) != 0 || impl.LiveCells(heap(free(), live(9, 0))) != 1 || impl.RefsOf(nil, 0) != -1 {
		t.Error("LiveCells or RefsOf of heaps without pointers")
	}
	// An integer is no pointer, and each field counts for itself.
	if h = heap(live(9, 0), live(1, 0, 0, 1, 999), live(1, 0, 1000, 1000, 1000), live(1, 0, 1000)); impl.RefsOf(h, 0) != 4 || impl.RefsOf(h, 1) != 0 {
		t.Error("RefsOf a cell to which four fields point")
	}
}

// reachingWords is a list of words, and the cells that they reach.
type reachingWords struct {
	words []int
	want  []int
}

func TestReachOf(t *testing.T) {
	h := someHeap()
	for _, c := range []reachingWords{
		{nil, nil}, {[]int{1000}, []int{0}}, {[]int{1003}, []int{0, 3}}, {[]int{1004}, []int{0, 3, 4}}, {[]int{1005}, []int{5}},
		{[]int{1005, 1000}, []int{0, 5}}, {[]int{1004, 1004, 1003}, []int{0, 3, 4}}, {[]int{1005, 1004}, []int{0, 3, 4, 5}},
		{[]int{0, 3, 4, 5, -1, 999, -999}, nil}, {[]int{1001, 1002}, nil}, {[]int{1006, 1007, 5000}, nil}, {[]int{-1000, 1 << 62, -1 << 63, 1<<63 - 1, 1005}, []int{5}},
	} {
		if got := impl.ReachOf(h, c.words); !same(got, c.want...) {
			t.Errorf("ReachOf %v = %v, want %v", c.words, got, c.want)
		}
	}
	if len(impl.ReachOf(nil, []int{1000})) > 0 {
		t.Error("ReachOf of the empty heap")
	}
	shared := heap(live(2, 0), live(1, 0, 1000), live(1, 0, 1000), live(1, 0, 1002, 1001))
	if !same(impl.ReachOf(shared, []int{1003}), 0, 1, 2, 3) || !same(impl.ReachOf(shared, []int{1002}), 0, 2) {
		t.Error("ReachOf a cell that is reached on two ways")
	}
}

func TestReachOfAgreesWithTheSecondWay(t *testing.T) {
	m := maker{seed: 22}
	for _, h := range heaps() {
		for try := 0; try < 4; try++ {
			var words []int
			for k := m.pick(4); k > 0; k-- {
				words = append(words, 998+m.pick(len(h)+4))
			}
			marks := make(map[int]bool)
			reachMeaning(h, words, marks)
			if got, want := impl.ReachOf(h, words), marked(marks, len(h)); !same(got, want...) {
				t.Fatalf("ReachOf(%v, %v) = %v, want %v", h, words, got, want)
			}
		}
	}
}

// allocation is a heap, the tag and the fields of a new cell, and what comes of it; without cells where it fails.
type allocation struct {
	h      []impl.Cell
	tag    int
	fields []int
	want   []impl.Cell
	w      int
}

func TestAllocCell(t *testing.T) {
	two := live(2, 7)
	for _, c := range []allocation{
		{nil, 0, nil, heap(live(1, 0)), 1000},
		{nil, 99, []int{1, -999, 999}, heap(live(1, 99, 1, -999, 999)), 1000},
		{heap(two), 1, []int{1000}, heap(two, live(1, 1, 1000)), 1001},
		{heap(two), 1, []int{1000, 0, 1000}, heap(two, live(1, 1, 1000, 0, 1000)), 1001},
		{heap(keep(2)), 1, []int{1, 2}, heap(keep(2), live(1, 1, 1, 2)), 1001},
		// The free cell with the least index is taken.
		{heap(free(), two), 5, nil, heap(live(1, 5), two), 1000},
		{heap(two, free(), free(), two), 5, []int{3}, heap(two, live(1, 5, 3), free(), two), 1001},
		{heap(keep(0), free(), two), 5, []int{1002}, heap(keep(0), live(1, 5, 1002), two), 1001},
		{heap(two, live(1, 0, 1000), free(), keep(1)), 5, []int{1000, 1001}, heap(two, live(1, 0, 1000), live(1, 5, 1000, 1001), keep(1)), 1002},
		{heap(two, live(1, 0, 1000), free(), keep(1)), 5, []int{1001, 1001}, nil, 0},
		{heap(two, live(1, 0, 1000), free(), keep(1)), 5, []int{1000, 1000}, nil, 0},
	} {
		if c.w == 0 {
			failsToAlloc(t, c.h, c.tag, c.fields...)
			continue
		}
		if out, w := impl.AllocCell(c.h, c.tag, c.fields); w != c.w || text(out) != text(c.want) {
			t.Errorf("AllocCell(%v, %d, %v) = %v, %d, want %v", c.h, c.tag, c.fields, out, w, c.want)
		}
	}
}

func TestAllocCellOfInvalidArguments(t *testing.T) {
	h := heap(live(2, 0), free(), keep(1), live(1, 0, 1000))
	for _, tag := range []int{-1, 100, -1 << 63, 1 << 62} {
		failsToAlloc(t, h, tag)
		failsToAlloc(t, nil, tag, 1)
	}
	// Too many fields, and such as are no words, or pointers to the new cell itself.
	failsToAlloc(t, h, 0, 1, 2, 3, 4)
	failsToAlloc(t, h, 0, make([]int, 100000)...)
	for _, w := range []int{-1000, 1001, 1002, 1004, 1005, 5000, 1 << 62, -1 << 63, 1<<63 - 1} {
		failsToAlloc(t, h, 0, w)
		failsToAlloc(t, h, 0, 0, 0, w)
	}
	failsToAlloc(t, nil, 0, 1000)
	failsToAlloc(t, heap(live(9, 0)), 0, 1001)
	failsToAlloc(t, heap(live(9, 0)), 0, 1000, 1001)
	// Counts that would be less than the number of fields that point to a cell.
	failsToAlloc(t, h, 0, 1000, 1000)
	failsToAlloc(t, h, 0, 1003, 1003)
	failsToAlloc(t, heap(live(1, 0), live(1, 0, 1000)), 0, 1000)
	if _, w := impl.AllocCell(h, 0, []int{1003, 1000, 9}); w != 1001 {
		t.Errorf("AllocCell = %d", w)
	}
}

func TestDupWord(t *testing.T) {
	h := someHeap()
	for _, w := range []int{0, 5, -999, 999} {
		if out, ok := impl.DupWord(h, w); !ok || text(out) != text(h) {
			t.Errorf("DupWord of the integer %d = %v, %v", w, out, ok)
		}
		if out, ok := impl.DupWord(nil, w); !ok || len(out) > 0 {
			t.Errorf("DupWord of the integer %d in the empty heap = %v, %v", w, out, ok)
		}
	}
	for _, i := range []int{0, 3, 4, 5} {
		want := copyCells(h)
		want[i].Count++
		if out, ok := impl.DupWord(h, 1000+i); !ok || text(out) != text(want) {
			t.Errorf("DupWord of the pointer to %d = %v, %v", i, out, ok)
		}
	}
	for _, w := range []int{1001, 1002, 1006, 5000, -1000, 1 << 62, -1 << 63, 1<<63 - 1} {
		failsToDup(t, h, w)
		failsToDrop(t, h, w)
	}
	full := heap(live(999998, 0), live(999999, 0), live(1, 0, 1001))
	if out, ok := impl.DupWord(full, 1000); !ok || out[0].Count != 999999 {
		t.Errorf("DupWord = %v, %v", out, ok)
	}
	failsToDup(t, full, 1001)
	if out, ok := impl.DupWord(full, 7); !ok || text(out) != text(full) {
		t.Errorf("DupWord of an integer = %v, %v", out, ok)
	}
}

// dropping is a heap, a word, and the heap without a reference to it.
type dropping struct {
	h    []impl.Cell
	w    int
	want []impl.Cell
}

func TestDropWord(t *testing.T) {
	one := live(1, 0)
	for _, c := range []dropping{
		{nil, 0, nil}, {nil, 999, nil}, {someHeap(), -999, someHeap()}, {heap(keep(1)), 3, heap(keep(1))},
		{heap(one), 1000, nil}, {heap(live(2, 0)), 1000, heap(one)}, {heap(live(999999, 0)), 1000, heap(live(999998, 0))},
		// What a freed cell points to is dropped, as often as it does so, and stays where others refer to it.
		{heap(one, live(1, 3, 1000)), 1001, nil},
		{heap(live(2, 0), live(1, 3, 1000)), 1001, heap(one)},
		{heap(live(2, 0), live(1, 3, 1000, 7, 1000)), 1001, nil},
		{heap(live(3, 0), live(1, 3, 1000, 7, 1000)), 1001, heap(one)},
		{heap(live(2, 0), live(2, 3, 1000)), 1000, heap(one, live(2, 3, 1000))},
		{heap(live(2, 0), live(2, 3, 1000)), 1001, heap(live(2, 0), live(1, 3, 1000))},
		{heap(one, live(1, 0, 1000), live(1, 0, 1001)), 1002, nil},
		{heap(one, live(2, 0, 1000), live(1, 0, 1001)), 1002, heap(one, live(1, 0, 1000))},
		{heap(live(1, 0, 1001), live(1, 0, 1002), one), 1000, nil},
		{heap(live(1, 0, 1001), live(1, 0, 1002), live(2, 0)), 1000, heap(free(), free(), one)},
		// A cell that is reached on two ways.
		{heap(live(2, 0), live(1, 0, 1000), live(1, 0, 1000), live(1, 0, 1001, 1002)), 1003, nil},
		{heap(live(3, 0), live(1, 0, 1000), live(1, 0, 1000), live(1, 0, 1001, 1002)), 1003, heap(one)},
		{heap(live(2, 0), live(1, 0, 1000), live(2, 0, 1000), live(1, 0, 1001, 1002)), 1003, heap(one, free(), live(1, 0, 1000))},
		{heap(live(1, 0, 1001, 1002), live(1, 0, 1003), live(1, 0, 1003), live(2, 0, 1004), one), 1000, nil},
		{heap(live(1, 0, 1001, 1003), live(1, 0, 1002), live(1, 0, 1003), live(2, 0)), 1000, nil},
		// Free cells at the end are left out, also those that were free before, and no others.
		{heap(one, free(), free(), one), 1003, heap(one)},
		{heap(free(), one), 1001, nil},
		{heap(free(), keep(0), free(), one), 1003, heap(free(), keep(0))},
		{heap(one, one), 1000, heap(free(), one)},
		{heap(one, keep(2)), 1000, heap(free(), keep(2))},
		{heap(live(1, 9, 5), one, live(1, 0, 1001, 1003), one, one), 1002, heap(live(1, 9, 5), free(), free(), free(), one)},
		{heap(live(1, 9, 5), one, one, live(1, 0, 1001)), 1003, heap(live(1, 9, 5), free(), one)},
		{heap(one, free(), live(1, 0, 1000)), 1002, nil},
	} {
		if out, ok := impl.DropWord(c.h, c.w); !ok || text(out) != text(c.want) {
			t.Errorf("DropWord(%v, %d) = %v, %v, want %v", c.h, c.w, out, ok, c.want)
		}
	}
}

func TestDropWordOfCellsThatOnlyFieldsReferTo(t *testing.T) {
	one := live(1, 0)
	failsToDrop(t, heap(one, live(1, 0, 1000)), 1000)
	failsToDrop(t, heap(live(2, 0), live(1, 0, 1000, 1000)), 1000)
	failsToDrop(t, heap(live(2, 0), live(1, 0, 1000), live(1, 0, 1000)), 1000)
	failsToDrop(t, heap(live(1, 0, 1001), one), 1001)
	failsToDrop(t, heap(one, live(1, 0, 1000), live(1, 0, 1001)), 1001)
	h := heap(live(3, 0), live(1, 0, 1000, 1000))
	out, ok := impl.DropWord(h, 1000)
	if !ok || text(out) != text(heap(live(2, 0), live(1, 0, 1000, 1000))) {
		t.Errorf("DropWord = %v, %v", out, ok)
	}
	failsToDrop(t, out, 1000)
}

// mayDrop reports whether DropWord drops a pointer to a cell.
func mayDrop(h []impl.Cell, i int) bool {
	return h[i].Count > refsMeaning(h)[i]
}

func TestDropWordAgreesWithTheSecondWay(t *testing.T) {
	freed, together, fails := 0, 0, 0
	for _, h := range heaps() {
		for _, w := range pointers(h) {
			if !mayDrop(h, w-1000) {
				failsToDrop(t, h, w)
				fails++
				continue
			}
			want := dropMeaning(h, w)
			if out, ok := impl.DropWord(h, w); !ok || text(out) != text(want) {
				t.Fatalf("DropWord(%v, %d) = %v, want %v", h, w, out, want)
			}
			switch len(pointers(h)) - len(pointers(want)) {
			case 0:
			case 1:
				freed++
			default:
				together++
			}
		}
	}
	if freed < 500 || together < 200 || fails < 500 {
		t.Errorf("%d drops free one cell, %d free more, and %d fail", freed, together, fails)
	}
}

func TestLargeHeaps(t *testing.T) {
	const size = 300000
	up, down := chain(size), backChain(size)
	top := 1000 + size - 1
	if !impl.ValidHeap(up) || !impl.ValidHeap(down) || impl.LiveCells(up) != size || len(impl.ReachOf(up, []int{top})) != size || len(impl.ReachOf(down, []int{1000})) != size {
		t.Error("ValidHeap, LiveCells or ReachOf of a long chain")
	}
	if out, ok := impl.DropWord(up, top); !ok || len(out) != 0 {
		t.Errorf("DropWord of a long chain leaves %d cells", len(out))
	}
	if out, ok := impl.DropWord(down, 1000); !ok || len(out) != 0 {
		t.Errorf("DropWord of a long chain leaves %d cells", len(out))
	}
	if out, w := impl.AllocCell(up, 0, []int{top}); w != top+1 || len(out) != size+1 {
		t.Errorf("AllocCell = %d", w)
	}
	round := backChain(size)
	round[size-1].Fields[0] = 1000
	if impl.ValidHeap(round) {
		t.Error("ValidHeap of a large circle")
	}
	// As many ways as there are doublings must not be gone one by one.
	double := heap(live(2, 0))
	for i := 1; i < 100; i++ {
		double = append(double, live(2, 0, 999+i, 999+i))
	}
	double[99].Count = 1
	if !impl.ValidHeap(double) || len(impl.ReachOf(double, []int{1099})) != 100 {
		t.Error("ValidHeap or ReachOf of doubled pointers")
	}
	if out, ok := impl.DropWord(double, 1099); !ok || len(out) != 0 {
		t.Errorf("DropWord of doubled pointers = %v", out)
	}
}

func TestP123HeapsCanBeReferredToFromOutside(t *testing.T) {
	for _, h := range heaps() {
		for _, w := range pointers(h) {
			more := copyCells(h)
			more[w-1000].Count++
			if want := more[w-1000].Count <= 999999; impl.ValidHeap(more) != want {
				t.Fatalf("ValidHeap(%v) = %v", more, !want)
			}
		}
	}
}

func TestP124HeapsHaveNoCircles(t *testing.T) {
	for _, h := range heaps() {
		for _, w := range pointers(h) {
			round := copyCells(h)
			c := &round[w-1000]
			// The count is great enough for the field, so that only the circle is wrong.
			if c.Count = min(c.Count, 999998) + 1; !impl.ValidHeap(round) {
				t.Fatalf("ValidHeap(%v) = false", round)
			}
			if len(c.Fields) == 3 {
				c.Fields = c.Fields[:2]
			}
			c.Fields = append(c.Fields, w)
			if impl.ValidHeap(round) {
				t.Fatalf("ValidHeap(%v) = true", round)
			}
		}
	}
}

func TestP125AllLiveCellsAreReachedByPointersToAll(t *testing.T) {
	for _, h := range heaps() {
		var all []int
		for i := range h {
			all = append(all, 1000+i)
		}
		if n := impl.LiveCells(h); n != len(impl.ReachOf(h, all)) || n != len(pointers(h)) {
			t.Fatalf("LiveCells(%v) = %d", h, n)
		}
	}
}

func TestP126CellsAreCountedAtLeastAsOftenAsTheyAreReferredTo(t *testing.T) {
	equal := 0
	for _, h := range heaps() {
		for i, c := range h {
			n := impl.RefsOf(h, i)
			if c.Count <= 0 && n != -1 || c.Count > 0 && (n < 0 || n > c.Count) {
				t.Fatalf("RefsOf(%v, %d) = %d", h, i, n)
			}
			if n == c.Count && n > 0 {
				equal++
				less := copyCells(h)
				if less[i].Count--; impl.ValidHeap(less) {
					t.Fatalf("ValidHeap(%v) = true", less)
				}
			}
		}
	}
	if equal < 300 {
		t.Errorf("only %d cells are counted as often as they are referred to", equal)
	}
}

func TestP127EachPointerRefersToOneCell(t *testing.T) {
	for _, h := range heaps() {
		sum, fields := 0, 0
		for i, c := range h {
			sum += max(0, impl.RefsOf(h, i))
			for _, w := range c.Fields {
				if w >= 1000 {
					fields++
				}
			}
		}
		if sum != fields {
			t.Fatalf("RefsOf all cells of %v is %d, and there are %d pointers", h, sum, fields)
		}
	}
}

func TestP128ReachedCellsAreClosed(t *testing.T) {
	for _, h := range heaps() {
		for i := range h {
			reached := impl.ReachOf(h, []int{1000 + i})
			if !ascends(reached) || has(reached, i) != (h[i].Count > 0) {
				t.Fatalf("ReachOf(%v, %d) = %v", h, 1000+i, reached)
			}
			for _, k := range reached {
				if h[k].Count <= 0 {
					t.Fatalf("ReachOf(%v, %d) = %v", h, 1000+i, reached)
				}
				for _, w := range h[k].Fields {
					if w >= 1000 && !has(reached, w-1000) {
						t.Fatalf("ReachOf(%v, %d) = %v", h, 1000+i, reached)
					}
				}
			}
		}
	}
}

func TestP129WordsReachTogetherWhatEachOneReaches(t *testing.T) {
	m := maker{seed: 61}
	for _, h := range heaps() {
		words := []int{m.pick(1500), 1000 + m.pick(len(h)+1), 1000 + m.pick(len(h)+1), 1000 + m.pick(len(h)+1)}
		together := impl.ReachOf(h, words)
		marks := make(map[int]bool)
		for _, w := range words {
			for _, i := range impl.ReachOf(h, []int{w}) {
				marks[i] = true
			}
		}
		if want := marked(marks, len(h)); !same(together, want...) {
			t.Fatalf("ReachOf(%v, %v) = %v, want %v", h, words, together, want)
		}
	}
}

// allocated calls a function for heaps with a new cell.
func allocated(t *testing.T, check func(h []impl.Cell, tag int, fields []int, out []impl.Cell, at int)) {
	t.Helper()
	m := maker{seed: 130}
	taken, longer, fails := 0, 0, 0
	for _, h := range heaps() {
		for try := 0; try < 6; try++ {
			tag := m.pick(100)
			var fields []int
			for k := m.pick(4); k > 0; k-- {
				fields = append(fields, m.wordTo(m.order(len(h))))
			}
			out, w := impl.AllocCell(h, tag, fields)
			if w == 0 {
				fails++
				continue
			}
			if len(out) > len(h) {
				longer++
			} else {
				taken++
			}
			check(h, tag, fields, out, w-1000)
		}
	}
	if taken < 1000 || longer < 1000 || fails < 1000 {
		t.Errorf("%d new cells take a free place, %d come at the end, and %d cannot be made", taken, longer, fails)
	}
}

func TestP130NewCellsHaveWhatTheyAreGiven(t *testing.T) {
	allocated(t, func(h []impl.Cell, tag int, fields []int, out []impl.Cell, at int) {
		if !impl.ValidHeap(out) || impl.LiveCells(out) != impl.LiveCells(h)+1 || text(out[at]) != text(live(1, tag, fields...)) {
			t.Fatalf("AllocCell(%v, %d, %v) = %v", h, tag, fields, out)
		}
		for i, c := range h {
			if i != at && text(c) != text(out[i]) {
				t.Fatalf("AllocCell(%v, %d, %v) = %v", h, tag, fields, out)
			}
		}
	})
}

func TestP131NewCellsTakeTheFirstFreePlace(t *testing.T) {
	allocated(t, func(h []impl.Cell, tag int, fields []int, out []impl.Cell, at int) {
		full := true
		for i, c := range h {
			if c.Count == 0 {
				full = false
				if i < at {
					t.Fatalf("AllocCell(%v, %d, %v) = %v", h, tag, fields, out)
				}
			}
		}
		if full && (len(out) != len(h)+1 || at != len(h)) || !full && (len(out) != len(h) || h[at].Count != 0) {
			t.Fatalf("AllocCell(%v, %d, %v) = %v", h, tag, fields, out)
		}
	})
}

func TestP132DroppingANewCellDropsItsFields(t *testing.T) {
	allocated(t, func(h []impl.Cell, tag int, fields []int, out []impl.Cell, at int) {
		got, ok := impl.DropWord(out, 1000+at)
		want, fine := h, true
		for _, w := range fields {
			if want, fine = impl.DropWord(want, w); !fine {
				t.Fatalf("DropWord of %d, a field of a new cell in %v, fails", w, h)
			}
		}
		if !ok || text(got) != text(want) {
			t.Fatalf("DropWord(%v, %d) = %v, want %v", out, 1000+at, got, want)
		}
	})
}

func TestP133AReferenceMoreIsCounted(t *testing.T) {
	for _, h := range heaps() {
		for _, w := range append(pointers(h), 0, -999, 999) {
			more, ok := impl.DupWord(h, w)
			if full := w >= 1000 && h[w-1000].Count == 999999; ok == full {
				t.Fatalf("DupWord(%v, %d) = %v, %v", h, w, more, ok)
			}
			if !ok {
				continue
			}
			want := copyCells(h)
			if w >= 1000 {
				want[w-1000].Count++
			}
			if !impl.ValidHeap(more) || text(more) != text(want) {
				t.Fatalf("DupWord(%v, %d) = %v", h, w, more)
			}
			if back, ok := impl.DropWord(more, w); !ok || text(back) != text(h) {
				t.Fatalf("DropWord(%v, %d) = %v, %v", more, w, back, ok)
			}
		}
	}
}

// dropped calls a function for heaps from which a reference to a cell is taken.
func dropped(check func(h []impl.Cell, at int, out []impl.Cell)) {
	for _, h := range heaps() {
		for _, w := range pointers(h) {
			if out, ok := impl.DropWord(h, w); ok {
				check(h, w-1000, out)
			}
		}
	}
}

// isThere reports whether a heap has a live cell with an index.
func isThere(h []impl.Cell, i int) bool {
	return i < len(h) && h[i].Count > 0
}

func TestP134WhatIsFreedWasReached(t *testing.T) {
	freed := 0
	dropped(func(h []impl.Cell, at int, out []impl.Cell) {
		reached := impl.ReachOf(h, []int{1000 + at})
		if !impl.ValidHeap(out) || len(out) > len(h) {
			t.Fatalf("DropWord(%v, %d) = %v", h, 1000+at, out)
		}
		for i := range h {
			if isThere(h, i) && !isThere(out, i) {
				freed++
				if !has(reached, i) {
					t.Fatalf("DropWord(%v, %d) = %v", h, 1000+at, out)
				}
			}
			if !isThere(h, i) && isThere(out, i) {
				t.Fatalf("DropWord(%v, %d) = %v", h, 1000+at, out)
			}
		}
	})
	if freed < 1000 {
		t.Errorf("only %d cells are freed", freed)
	}
}

func TestP135OnlyOneOuterReferenceIsGivenUp(t *testing.T) {
	dropped(func(h []impl.Cell, at int, out []impl.Cell) {
		before, now := outer(h), outer(out)
		before[at]--
		for i := range h {
			if isThere(h, i) && isThere(out, i) && now[i] != before[i] || isThere(h, i) && !isThere(out, i) && before[i] != 0 {
				t.Fatalf("DropWord(%v, %d) = %v", h, 1000+at, out)
			}
		}
	})
}

func TestP136TheOrderOfDropsDoesNotMatter(t *testing.T) {
	tried := 0
	dropped(func(h []impl.Cell, at int, out []impl.Cell) {
		for _, w := range pointers(h) {
			first, fine := impl.DropWord(out, w)
			second, well := impl.DropWord(h, w)
			if !fine || !well {
				continue
			}
			if both, ok := impl.DropWord(second, 1000+at); ok {
				tried++
				if text(both) != text(first) {
					t.Fatalf("DropWord(%v) of %d and %d = %v, and in the other order %v", h, 1000+at, w, first, both)
				}
			}
		}
	})
	if tried < 1000 {
		t.Errorf("only %d times two words are dropped", tried)
	}
}
