package tests

import (
	"testing"

	"loop.example/refcountml/impl"
)

// settled returns a valid lazy heap after freeing some pending cells.
func settled(t *testing.T, z impl.Lazy, many int) impl.Lazy {
	t.Helper()
	out, ok := impl.Settle(z, many)
	if !ok {
		t.Fatalf("Settle(%v, %d) fails", z, many)
	}
	return out
}

// wholly returns the cells of a valid lazy heap after freeing all pending ones.
func wholly(t *testing.T, z impl.Lazy) []impl.Cell {
	t.Helper()
	out, ok := impl.SettledHeap(z)
	if !ok {
		t.Fatalf("SettledHeap(%v) fails", z)
	}
	return out
}

// lazyRule is a lazy heap, and whether it is valid.
type lazyRule struct {
	z  impl.Lazy
	ok bool
}

// lazyRules returns lazy heaps that are valid, or nearly so.
func lazyRules() []lazyRule {
	one, wait := live(1, 0), waits(0)
	out := []lazyRule{
		{impl.Lazy{}, true}, {lazy(heap(), []int{}...), true}, {lazy(nil, 0), false}, {lazy(nil, -1), false},
		// Pending cells are different ones, which are there and not counted.
		{lazy(heap(wait), 0), true}, {lazy(heap(wait)), false}, {lazy(heap(wait), 0, 0), false}, {lazy(heap(wait), 1), false}, {lazy(heap(wait), -1), false}, {lazy(heap(wait), 0, 1), false}, {lazy(heap(wait), 1000), false}, {lazy(heap(wait), -1<<63), false}, {lazy(heap(wait), 1<<63-1), false},
		{lazy(heap(one), 0), false}, {lazy(heap(live(2, 0)), 0), false}, {lazy(heap(wait, wait), 0, 1), true}, {lazy(heap(wait, wait), 1, 0), true}, {lazy(heap(wait, wait), 1), true}, {lazy(heap(wait, wait), 0), false}, {lazy(heap(wait, wait), 0, 1, 0), false}, {lazy(heap(wait, wait), 1, 1), false},
		{lazy(heap(wait, one), 0), true}, {lazy(heap(wait, one)), true}, {lazy(heap(wait, one), 1), false},
		// No cell is kept, or has any other Count less than 0.
		{lazy(heap(keep(0))), false}, {lazy(heap(keep(0), one)), false}, {lazy(heap(keep(2), wait), 1), false}, {lazy(heap(keep(0)), 0), false}, {lazy(heap(live(-2, 0), one)), false},
		// Of a pending cell all is valid but the Count; a cell that is free has nothing.
		{lazy(heap(waits(99)), 0), true}, {lazy(heap(waits(100)), 0), false}, {lazy(heap(waits(-1)), 0), false}, {lazy(heap(waits(5, 1, -999, 999)), 0), true}, {lazy(heap(waits(5, 1, 2, 3, 4)), 0), false}, {lazy(heap(waits(5, 1000-2000)), 0), false}, {lazy(heap(waits(5, 1001)), 0), false}, {lazy(heap(waits(1), one)), false}, {lazy(heap(waits(0, 0), one)), false},
		{lazy(heap(one, waits(1, 1000)), 1), true}, {lazy(heap(one, waits(1, 1000, 1000)), 1), false}, {lazy(heap(live(2, 0), waits(1, 1000, 1000)), 1), true}, {lazy(heap(waits(1, 1001), one), 0), true},
		// The other cells are valid, too, and counted as often as pending cells and others point to them.
		{lazy(heap(live(1, 100))), false}, {lazy(heap(live(1000000, 0))), false}, {lazy(heap(live(999999, 0))), true}, {lazy(heap(live(1, 0, 1000))), false}, {lazy(heap(one, waits(1, 1000), live(1, 0, 1000)), 1), false}, {lazy(heap(live(2, 0), waits(1, 1000), live(1, 0, 1000)), 1), true}, {lazy(heap(live(2, 0), waits(1, 1000), waits(0, 1000)), 1, 2), true}, {lazy(heap(one, waits(1, 1000), waits(0, 1000)), 1, 2), false},
		// No field points to a pending cell, whether it is that of a live one, of another pending one, or its own.
		{lazy(heap(wait, live(1, 0, 1000)), 0), false}, {lazy(heap(wait, waits(0, 1000)), 0, 1), false}, {lazy(heap(wait, waits(0, 1000)), 1, 0), false}, {lazy(heap(waits(0, 1000)), 0), false}, {lazy(heap(live(1, 0, 5, 1001), wait), 1), false}, {lazy(heap(waits(0, 1001), waits(0, 1000)), 0, 1), false},
		{lazy(heap(waits(0, 1001), live(1, 0, 1002), one), 0), true}, {lazy(heap(waits(0, 1001), live(2, 0, 1002), live(1, 0, 1001)), 0), false},
		// The last cell is not free, but it may be pending.
		{lazy(heap(wait, free()), 0), false}, {lazy(heap(free(), wait), 1), true}, {lazy(heap(free(), one)), true}, {lazy(heap(free(), wait), 0), false}, {lazy(heap(free(), wait), 0, 1), true},
	}
	// Without pending cells a heap is a lazy heap, if nothing is kept.
	for _, c := range heapRules() {
		kept := false
		for _, one := range c.h {
			kept = kept || one.Count < 0
		}
		out = append(out, lazyRule{lazy(c.h), c.ok && !kept})
	}
	return out
}

func TestValidLazyOfTheRules(t *testing.T) {
	for _, c := range lazyRules() {
		if got := impl.ValidLazy(c.z); got != c.ok || lazyFits(c.z) != c.ok {
			t.Errorf("ValidLazy(%.200s) = %v, and in the second way %v", text(c.z), got, lazyFits(c.z))
		}
	}
}

func TestValidLazyAgreesWithTheSecondWay(t *testing.T) {
	m := maker{seed: 2102}
	valid, not := 0, 0
	for _, z := range lazies() {
		if !impl.ValidLazy(z) {
			t.Fatalf("ValidLazy(%v) = false", z)
		}
		for try := 0; try < 12; try++ {
			other := m.spoiltLazy(z)
			want := lazyFits(other)
			if impl.ValidLazy(other) != want {
				t.Fatalf("ValidLazy(%v) = %v", other, !want)
			}
			if want {
				valid++
			} else {
				not++
			}
		}
	}
	if valid < 2000 || not < 3000 {
		t.Errorf("%d lazy heaps are valid, and %d are not", valid, not)
	}
}

// failsToLazyDrop tells if LazyDrop drops what it should not.
func failsToLazyDrop(t *testing.T, z impl.Lazy, w int) {
	t.Helper()
	if out, ok := impl.LazyDrop(z, w); ok || text(out) != text(impl.Lazy{}) {
		t.Errorf("LazyDrop(%.200s, %d) = %v, %v", text(z), w, out, ok)
	}
}

// failsToSettle tells if Settle frees what it should not.
func failsToSettle(t *testing.T, z impl.Lazy, many int) {
	t.Helper()
	if out, ok := impl.Settle(z, many); ok || text(out) != text(impl.Lazy{}) {
		t.Errorf("Settle(%.200s, %d) = %v, %v", text(z), many, out, ok)
	}
}

// failsToLazyAlloc tells if LazyAlloc makes a cell that it should not.
func failsToLazyAlloc(t *testing.T, z impl.Lazy, tag int, fields ...int) {
	t.Helper()
	if out, w := impl.LazyAlloc(z, tag, fields); w != 0 || text(out) != text(impl.Lazy{}) {
		t.Errorf("LazyAlloc(%.200s, %d, %.100s) = %v, %d", text(z), tag, text(fields), out, w)
	}
}

// failsOnLazy tells if a function of lazy heaps takes one that is not valid.
func failsOnLazy(t *testing.T, z impl.Lazy) {
	t.Helper()
	if h, ok := impl.SettledHeap(z); ok || len(h) > 0 {
		t.Errorf("SettledHeap(%.200s) = %v, %v", text(z), h, ok)
	}
	for _, w := range []int{0, -999, 1000, 1001} {
		failsToLazyDrop(t, z, w)
		failsToLazyAlloc(t, z, 0, w)
	}
	for _, many := range []int{0, 1, 100000} {
		failsToSettle(t, z, many)
	}
	failsToLazyAlloc(t, z, 0)
}

func TestLazyFreeingOfInvalidArguments(t *testing.T) {
	for _, c := range lazyRules() {
		if !c.ok {
			failsOnLazy(t, c.z)
		}
	}
	m := maker{seed: 2103}
	for _, z := range lazies() {
		if other := m.spoiltLazy(z); !lazyFits(other) {
			failsOnLazy(t, other)
		}
		for _, w := range []int{-1000, 1000 + len(z.Cells), 1 << 62, -1 << 63, 1<<63 - 1} {
			failsToLazyDrop(t, z, w)
			failsToLazyAlloc(t, z, 0, w)
			failsToLazyAlloc(t, z, 0, 5, 7, w)
		}
		for _, tag := range []int{-1, 100, -1 << 63, 1<<63 - 1} {
			failsToLazyAlloc(t, z, tag)
		}
		for _, many := range []int{-1, 100001, -1 << 63, 1<<63 - 1} {
			failsToSettle(t, z, many)
		}
		failsToLazyAlloc(t, z, 0, 1, 2, 3, 4)
		failsToLazyAlloc(t, z, 0, make([]int, 100000)...)
	}
}

// lazyDropping is a lazy heap, a word, and the text of what LazyDrop makes of it; "" if it fails.
type lazyDropping struct {
	z    impl.Lazy
	w    int
	want string
}

func TestLazyDropOfTheRules(t *testing.T) {
	one, two := live(1, 0), live(2, 0)
	for _, c := range []lazyDropping{
		{lazy(heap(two)), 1000, "{1:0()}[]"}, {lazy(heap(live(999999, 7))), 1000, "{999998:7()}[]"}, {lazy(heap(one)), 1000, "{1000000:0()}[0]"},
		// The cell and its fields stay as they are, and it is the last one of those that are pending.
		{lazy(heap(live(1, 9, 4, -5))), 1000, "{1000000:9(4 -5)}[0]"}, {lazy(heap(one, live(1, 1, 1000))), 1001, "{1:0() 1000000:1(1000)}[1]"},
		{lazy(heap(waits(5), one), 0), 1001, "{1000000:5() 1000000:0()}[0 1]"}, {lazy(heap(one, waits(5)), 1), 1000, "{1000000:0() 1000000:5()}[1 0]"}, {lazy(heap(one, free(), waits(3), waits(5)), 3, 2), 1000, "{1000000:0() free 1000000:3() 1000000:5()}[3 2 0]"},
		// Integers are dropped without any change.
		{lazy(heap(one)), 0, "{1:0()}[]"}, {lazy(heap(waits(1)), 0), 999, "{1000000:1()}[0]"}, {lazy(nil), -999, "{}[]"}, {lazy(heap(one)), 1000 - 2000, ""}, {lazy(nil), 1000, ""},
		// Words that are no pointers to live cells.
		{lazy(heap(waits(0)), 0), 1000, ""}, {lazy(heap(free(), one)), 1000, ""}, {lazy(heap(one)), 1001, ""}, {lazy(heap(one)), 1 << 62, ""},
		// Cells to which fields alone refer, those of live cells and those of pending ones.
		{lazy(heap(one, live(1, 0, 1000))), 1000, ""}, {lazy(heap(one, waits(0, 1000)), 1), 1000, ""}, {lazy(heap(two, live(1, 0, 1000))), 1000, "{1:0() 1:0(1000)}[]"}, {lazy(heap(two, waits(0, 1000)), 1), 1000, "{1:0() 1000000:0(1000)}[1]"},
		{lazy(heap(two, waits(0, 1000), live(1, 0, 1000)), 1), 1000, ""}, {lazy(heap(live(3, 0), waits(0, 1000), live(1, 0, 1000)), 1), 1000, "{2:0() 1000000:0(1000) 1:0(1000)}[1]"}, {lazy(heap(two, waits(0, 1000, 1000)), 1), 1000, ""},
	} {
		out, ok := impl.LazyDrop(c.z, c.w)
		if c.want == "" {
			failsToLazyDrop(t, c.z, c.w)
		} else if !ok || showLazy(out) != c.want {
			t.Errorf("LazyDrop(%s, %d) = %s, %v, want %s", showLazy(c.z), c.w, showLazy(out), ok, c.want)
		}
	}
}

// lazySettling is a lazy heap, how many cells are freed, and the text of what Settle makes of it.
type lazySettling struct {
	z    impl.Lazy
	many int
	want string
}

func TestSettleOfTheRules(t *testing.T) {
	one, two := live(1, 0), live(2, 0)
	queue := lazy(heap(waits(1, 1002, 1003), waits(2, 1003), one, two, one), 1, 0)
	both := lazy(heap(waits(7, 1001, 4, 1001), two), 0)
	chained := lazy(heap(one, live(1, 1, 1000), live(1, 2, 1001), waits(3, 1002)), 3)
	for _, c := range []lazySettling{
		{lazy(nil), 5, "{}[]"}, {lazy(heap(one)), 5, "{1:0()}[]"}, {lazy(heap(waits(0)), 0), 0, "{1000000:0()}[0]"}, {lazy(heap(waits(0)), 0), 1, "{}[]"}, {lazy(heap(waits(0)), 0), 100000, "{}[]"},
		// The first one of those that are pending comes first, and what it frees comes last.
		{queue, 0, "{1000000:1(1002 1003) 1000000:2(1003) 1:0() 2:0() 1:0()}[1 0]"}, {queue, 1, "{1000000:1(1002 1003) free 1:0() 1:0() 1:0()}[0]"}, {queue, 2, "{free free 1000000:0() 1000000:0() 1:0()}[2 3]"}, {queue, 3, "{free free free 1000000:0() 1:0()}[3]"}, {queue, 4, "{free free free free 1:0()}[]"}, {queue, 9, "{free free free free 1:0()}[]"},
		// A field that points to a cell twice takes both references away.
		{both, 1, "{free 1000000:0()}[1]"}, {both, 2, "{}[]"}, {lazy(heap(waits(7, 1001, 4, 1001), live(3, 0)), 0), 2, "{free 1:0()}[]"},
		// In the order of the fields, and for equal ones in that of the last field.
		{lazy(heap(waits(0, 1002, 1001), one, live(1, 9)), 0), 1, "{free 1000000:0() 1000000:9()}[2 1]"}, {lazy(heap(waits(0, 1002, 1001, 1002), one, two), 0), 1, "{free 1000000:0() 1000000:0()}[1 2]"},
		// Cells that are free are left out at the end, but not before those that are pending.
		{chained, 0, "{1:0() 1:1(1000) 1:2(1001) 1000000:3(1002)}[3]"}, {chained, 1, "{1:0() 1:1(1000) 1000000:2(1001)}[2]"}, {chained, 2, "{1:0() 1000000:1(1000)}[1]"}, {chained, 3, "{1000000:0()}[0]"}, {chained, 4, "{}[]"}, {chained, 100000, "{}[]"},
		{lazy(heap(waits(1), free(), waits(2)), 2, 0), 1, "{1000000:1()}[0]"}, {lazy(heap(waits(1), free(), waits(2)), 0, 2), 1, "{free free 1000000:2()}[2]"}, {lazy(heap(one, free(), waits(2), free(), waits(4)), 4, 2), 1, "{1:0() free 1000000:2()}[2]"}, {lazy(heap(one, free(), waits(2), free(), waits(4)), 4, 2), 2, "{1:0()}[]"},
	} {
		out := settled(t, c.z, c.many)
		if showLazy(out) != c.want || text(out) != text(settleMeaning(c.z, c.many)) {
			t.Errorf("Settle(%s, %d) = %s, in the second way %s, want %s", showLazy(c.z), c.many, showLazy(out), showLazy(settleMeaning(c.z, c.many)), c.want)
		}
		if h := wholly(t, c.z); text(h) != text(settledMeaning(c.z)) {
			t.Errorf("SettledHeap(%s) = %s, want %s", showLazy(c.z), showHeap(h), showHeap(settledMeaning(c.z)))
		}
	}
}

func TestLazyFreeingAgreesWithTheSecondWay(t *testing.T) {
	for _, z := range lazies() {
		for many := 0; many <= len(z.Cells)+1; many++ {
			if got, want := settled(t, z, many), settleMeaning(z, many); text(got) != text(want) {
				t.Fatalf("Settle(%v, %d) = %v, want %v", z, many, got, want)
			}
		}
		if got, want := wholly(t, z), settledMeaning(z); text(got) != text(want) {
			t.Fatalf("SettledHeap(%v) = %v, want %v", z, got, want)
		}
	}
}

// lazyMaking is a lazy heap, the fields of a new cell, and the text of what LazyAlloc makes of it, with the pointer; "" if it fails.
type lazyMaking struct {
	z      impl.Lazy
	fields []int
	want   string
	w      int
}

func TestLazyAllocOfTheRules(t *testing.T) {
	one, two := live(1, 0), live(2, 0)
	for _, c := range []lazyMaking{
		{lazy(nil), nil, "{1:5()}[]", 1000}, {lazy(heap(one)), []int{7, -999, 999}, "{1:0() 1:5(7 -999 999)}[]", 1001}, {lazy(heap(free(), one)), nil, "{1:5() 1:0()}[]", 1000}, {lazy(heap(one, free(), free(), one)), nil, "{1:0() 1:5() free 1:0()}[]", 1001},
		// One pending cell is freed, whose place can be taken; those of the others cannot.
		{lazy(heap(waits(1)), 0), nil, "{1:5()}[]", 1000}, {lazy(heap(waits(1), waits(2)), 1, 0), nil, "{1000000:1() 1:5()}[0]", 1001}, {lazy(heap(waits(1), waits(2)), 0, 1), nil, "{1:5() 1000000:2()}[1]", 1000}, {lazy(heap(waits(1), free(), waits(2)), 2, 0), nil, "{1000000:1() 1:5()}[0]", 1001}, {lazy(heap(waits(1), free(), waits(2)), 0, 2), nil, "{1:5() free 1000000:2()}[2]", 1000},
		{lazy(heap(waits(1, 1001), one), 0), nil, "{1:5() 1000000:0()}[1]", 1000}, {lazy(heap(one, waits(1, 1000)), 1), nil, "{1000000:0() 1:5()}[0]", 1001}, {lazy(heap(waits(1), waits(2), waits(3)), 2, 1, 0), nil, "{1000000:1() 1000000:2() 1:5()}[1 0]", 1002},
		// Fields that take references up that there are from outside, and no more.
		{lazy(heap(one)), []int{1000}, "{1:0() 1:5(1000)}[]", 1001}, {lazy(heap(one)), []int{1000, 1000}, "", 0}, {lazy(heap(two)), []int{1000, 1000}, "{2:0() 1:5(1000 1000)}[]", 1001}, {lazy(heap(one, live(1, 0, 1000))), []int{1000}, "", 0}, {lazy(heap(two, live(1, 0, 1000))), []int{1001, 1000}, "{2:0() 1:0(1000) 1:5(1001 1000)}[]", 1002},
		// References that a pending cell has are given up only when it is freed.
		{lazy(heap(two, waits(1, 1000), waits(2, 1000)), 1, 2), []int{1000}, "", 0}, {lazy(heap(two, waits(1, 1000)), 1), []int{1000}, "{1:0() 1:5(1000)}[]", 1001}, {lazy(heap(live(3, 0), waits(1, 1000), waits(2, 1000)), 2, 1), []int{1000}, "{2:0() 1000000:1(1000) 1:5(1000)}[1]", 1002},
		// Fields that are freed before, or are pending, or were so.
		{lazy(heap(one, waits(1, 1000)), 1), []int{1000}, "", 0}, {lazy(heap(waits(1)), 0), []int{1000}, "", 0}, {lazy(heap(waits(1), waits(2)), 0, 1), []int{1001}, "", 0}, {lazy(heap(waits(1), waits(2)), 0, 1), []int{1000}, "", 0}, {lazy(heap(one, waits(1)), 1), []int{1001}, "", 0},
		// Fields that point to the new cell itself, or to no cell.
		{lazy(nil), []int{1000}, "", 0}, {lazy(heap(one)), []int{1001}, "", 0}, {lazy(heap(free(), one)), []int{1000}, "", 0}, {lazy(heap(one)), []int{5, 1000, 1002}, "", 0}, {lazy(heap(one)), []int{-1000}, "", 0},
		{lazy(heap(one)), []int{1, 2, 3, 4}, "", 0},
	} {
		out, w := impl.LazyAlloc(c.z, 5, c.fields)
		if c.want == "" {
			failsToLazyAlloc(t, c.z, 5, c.fields...)
		} else if w != c.w || showLazy(out) != c.want {
			t.Errorf("LazyAlloc(%s, %v) = %s, %d, want %s, %d", showLazy(c.z), c.fields, showLazy(out), w, c.want, c.w)
		}
	}
	for _, tag := range []int{0, 99} {
		if out, w := impl.LazyAlloc(impl.Lazy{}, tag, nil); w != 1000 || out.Cells[0].Tag != tag {
			t.Errorf("LazyAlloc with the tag %d = %v, %d", tag, out, w)
		}
	}
	failsToLazyAlloc(t, impl.Lazy{}, 100)
	failsToLazyAlloc(t, impl.Lazy{}, -1)
}

// A heap that is large must be freed without a deep recursion, and beyond what Settle can be asked for.
func TestLargeLazyHeaps(t *testing.T) {
	size := 150000
	z := lazy(chain(size))
	down, ok := impl.LazyDrop(z, 999+size)
	if !ok || !same(down.Pending, size-1) || len(down.Cells) != size {
		t.Fatalf("LazyDrop = %v, with %d cells", down.Pending, len(down.Cells))
	}
	most := settled(t, down, 100000)
	if len(most.Cells) != 50000 || !same(most.Pending, 49999) {
		t.Errorf("Settle leaves %d cells, and %v pending", len(most.Cells), most.Pending)
	}
	if h := wholly(t, down); len(h) != 0 {
		t.Errorf("SettledHeap has %d cells", len(h))
	}
	var many impl.Lazy
	for i := 0; i < size; i++ {
		many.Cells = append(many.Cells, waits(1))
		many.Pending = append(many.Pending, size-1-i)
	}
	if !impl.ValidLazy(many) || len(settled(t, many, 100000).Cells) != 50000 || len(wholly(t, many)) != 0 {
		t.Error("many pending cells are not freed")
	}
	many.Pending[7] = many.Pending[8]
	if impl.ValidLazy(many) {
		t.Error("ValidLazy with a cell that is pending twice")
	}
}

func TestP194HeapsWithoutKeptCellsAreLazyHeaps(t *testing.T) {
	m := maker{seed: 2104}
	lazyOnes, kept, not := 0, 0, 0
	check := func(h []impl.Cell) {
		want := impl.ValidHeap(h)
		for _, c := range h {
			if want && c.Count == -1 {
				kept++
				want = false
			}
		}
		if impl.ValidLazy(lazy(h)) != want {
			t.Fatalf("ValidLazy(%v) without pending cells = %v", h, !want)
		}
		if want {
			lazyOnes++
		} else {
			not++
		}
	}
	for _, h := range heaps() {
		check(h)
		check(m.spoiltHeap(h))
		check(m.lazyOf(h).Cells)
	}
	if lazyOnes < 500 || kept < 200 || not < 1000 {
		t.Errorf("%d heaps are lazy heaps, %d have kept cells, and %d are none", lazyOnes, kept, not)
	}
}

func TestP195PendingCellsAreNotReferredTo(t *testing.T) {
	for _, z := range lazies() {
		refs := refsMeaning(z.Cells)
		for _, i := range z.Pending {
			if z.Cells[i].Count != 0 || refs[i] != 0 {
				t.Fatalf("the valid lazy heap %v has the pending cell %d", z, i)
			}
			for k := range z.Cells {
				other := copyLazy(z)
				if c := &other.Cells[k]; c.Count > 0 || has(z.Pending, k) {
					c.Fields = append(c.Fields[:min(2, len(c.Fields))], 1000+i)
					if impl.ValidLazy(other) {
						t.Fatalf("ValidLazy(%v) = true", other)
					}
				}
			}
			for _, count := range []int{-1, 1, 2} {
				other := copyLazy(z)
				if other.Cells[i].Count = count; impl.ValidLazy(other) {
					t.Fatalf("ValidLazy(%v) = true", other)
				}
			}
		}
	}
}

// eachLazyDrop calls a function for each lazy heap and what LazyDrop makes of it for each word for which it succeeds.
func eachLazyDrop(t *testing.T, check func(z impl.Lazy, w int, out impl.Lazy)) {
	t.Helper()
	pending, stays := 0, 0
	for _, z := range lazies() {
		refs := refsMeaning(z.Cells)
		for _, w := range append(pointers(z.Cells), 0, 999, -999) {
			out, ok := impl.LazyDrop(z, w)
			if want := w < 1000 || z.Cells[w-1000].Count > refs[w-1000]; ok != want {
				t.Fatalf("LazyDrop(%v, %d) = %v, %v", z, w, out, ok)
			}
			if !ok {
				failsToLazyDrop(t, z, w)
				continue
			}
			check(z, w, out)
			if len(out.Pending) > len(z.Pending) {
				pending++
			} else if w >= 1000 {
				stays++
			}
		}
	}
	if pending < 300 || stays < 300 {
		t.Errorf("%d cells become pending, and %d do not", pending, stays)
	}
}

func TestP196LazyDropsAreDrops(t *testing.T) {
	eachLazyDrop(t, func(z impl.Lazy, w int, out impl.Lazy) {
		want, ok := impl.DropWord(wholly(t, z), w)
		if !impl.ValidLazy(out) || !ok || text(wholly(t, out)) != text(want) {
			t.Fatalf("SettledHeap of LazyDrop(%v, %d) = %v, want %v, %v", z, w, wholly(t, out), want, ok)
		}
	})
}

func TestP197LazyDropsTouchOneCell(t *testing.T) {
	eachLazyDrop(t, func(z impl.Lazy, w int, out impl.Lazy) {
		want := copyLazy(z)
		if i := w - 1000; w >= 1000 {
			want.Cells[i].Count--
			if want.Cells[i].Count == 0 {
				want.Pending = append(want.Pending, i)
			}
		}
		if text(out) != text(want) {
			t.Fatalf("LazyDrop(%v, %d) = %v, want %v", z, w, out, want)
		}
	})
}

func TestP198SettlingCanBeCut(t *testing.T) {
	for _, z := range lazies() {
		for first := 0; first <= len(z.Cells); first++ {
			for then := 0; then <= 3; then++ {
				one := settled(t, z, first)
				two := settled(t, one, then)
				if !impl.ValidLazy(one) || !impl.ValidLazy(two) || text(two) != text(settled(t, z, first+then)) {
					t.Fatalf("Settle(%v) with %d and then with %d = %v", z, first, then, two)
				}
			}
		}
	}
}

func TestP199SettlingEnds(t *testing.T) {
	for _, z := range lazies() {
		out := settled(t, z, len(z.Cells))
		if len(out.Pending) > 0 || text(out.Cells) != text(wholly(t, z)) || text(out) != text(settled(t, z, 100000)) {
			t.Fatalf("Settle(%v) with the number of cells = %v, and SettledHeap = %v", z, out, wholly(t, z))
		}
	}
}

func TestP200SettlingLeadsToOneHeap(t *testing.T) {
	for _, z := range lazies() {
		want := text(wholly(t, z))
		for many := 0; many <= len(z.Cells); many++ {
			if got := text(wholly(t, settled(t, z, many))); got != want {
				t.Fatalf("SettledHeap of Settle(%v, %d) = %s, want %s", z, many, got, want)
			}
		}
	}
}

// freeIn returns the number of free cells of a lazy heap, were it as long as it is said to be.
func freeIn(z impl.Lazy, size int) int {
	n := size - len(z.Cells)
	for i, c := range z.Cells {
		if c.Count == 0 && !has(z.Pending, i) {
			n++
		}
	}
	return n
}

func TestP201EachSettlingFreesOneCell(t *testing.T) {
	freed := 0
	for _, z := range lazies() {
		for ; len(z.Pending) > 0; freed++ {
			out := settled(t, z, 1)
			rest := z.Pending[1:]
			if freeIn(out, len(z.Cells)) != freeIn(z, len(z.Cells))+1 || len(out.Pending) < len(rest) || !sameList(out.Pending[:len(rest)], rest) {
				t.Fatalf("Settle(%v, 1) = %v", z, out)
			}
			z = out
		}
		if out := settled(t, z, 1); text(out) != text(z) {
			t.Fatalf("Settle(%v, 1) with nothing pending = %v", z, out)
		}
	}
	if freed < 1000 {
		t.Errorf("only %d cells are freed", freed)
	}
}

func TestP202SettledHeapsAreValid(t *testing.T) {
	equal := 0
	for _, z := range lazies() {
		h := wholly(t, z)
		if !impl.ValidHeap(h) {
			t.Fatalf("SettledHeap(%v) = %v", z, h)
		}
		for i, c := range h {
			if c.Count > 0 && z.Cells[i].Count <= 0 || c.Count < 0 {
				t.Fatalf("SettledHeap(%v) = %v", z, h)
			}
		}
		if len(z.Pending) == 0 {
			equal++
			if text(h) != text(z.Cells) {
				t.Fatalf("SettledHeap(%v) with nothing pending = %v", z, h)
			}
		}
	}
	if equal < 100 {
		t.Errorf("only %d lazy heaps have nothing pending", equal)
	}
}

// eachLazyAlloc calls a function for lazy heaps and what LazyAlloc makes of them for fields for which it succeeds.
func eachLazyAlloc(t *testing.T, check func(z impl.Lazy, tag int, fields []int, out impl.Lazy, w int)) {
	t.Helper()
	m := maker{seed: 2105}
	made, failed := 0, 0
	for _, z := range lazies() {
		for try := 0; try < 5; try++ {
			tag := m.pick(100)
			var fields []int
			for k := m.pick(4); k > 0; k-- {
				fields = append(fields, m.wordTo(m.order(len(z.Cells))))
			}
			out, w := impl.LazyAlloc(z, tag, fields)
			if w == 0 {
				failed++
				failsToLazyAlloc(t, z, tag, fields...)
			} else {
				made++
				check(z, tag, fields, out, w)
			}
			if after := settleMeaning(z, 1); (w == 0) == mayTake(after.Cells, fields) {
				t.Fatalf("LazyAlloc(%v, %d, %v) = %v, %d", z, tag, fields, out, w)
			}
		}
	}
	if made < 2000 || failed < 500 {
		t.Errorf("%d cells are made, and %d are not", made, failed)
	}
}

// mayTake reports whether the fields of a new cell can take up references that there are to the cells of a heap from outside.
func mayTake(h []impl.Cell, fields []int) bool {
	from := outer(h)
	for _, w := range fields {
		if w < 1000 {
			continue
		}
		// What is not live has nothing from outside.
		if from[w-1000]--; from[w-1000] < 0 {
			return false
		}
	}
	return true
}

func TestP203NewCellsStay(t *testing.T) {
	eachLazyAlloc(t, func(z impl.Lazy, tag int, fields []int, out impl.Lazy, w int) {
		before, now := wholly(t, z), wholly(t, out)
		if !impl.ValidLazy(out) || impl.LiveCells(now) != impl.LiveCells(before)+1 || w-1000 >= len(now) || text(now[w-1000]) != text(live(1, tag, fields...)) || text(out.Cells[w-1000]) != text(live(1, tag, fields...)) {
			t.Fatalf("LazyAlloc(%v, %d, %v) = %v, %d", z, tag, fields, out, w)
		}
		// It takes the first place that there is after the freeing, and changes no other cell.
		after := settleMeaning(z, 1)
		at := 0
		for at < len(after.Cells) && (after.Cells[at].Count > 0 || has(after.Pending, at)) {
			at++
		}
		if at == len(after.Cells) {
			after.Cells = append(after.Cells, free())
		}
		after.Cells[at] = live(1, tag, fields...)
		if text(out) != text(after) || w != 1000+at {
			t.Fatalf("LazyAlloc(%v, %d, %v) = %v, %d, want %v", z, tag, fields, out, w, after)
		}
	})
}

func TestP204PendingCellsMakeRoom(t *testing.T) {
	waiting, longer := 0, 0
	eachLazyAlloc(t, func(z impl.Lazy, tag int, fields []int, out impl.Lazy, w int) {
		if len(z.Pending) == 0 {
			if len(out.Cells) > len(z.Cells) {
				longer++
			}
			return
		}
		waiting++
		held := make(map[int]bool)
		for _, w := range z.Cells[z.Pending[0]].Fields {
			if w >= 1000 {
				held[w] = true
			}
		}
		if len(out.Cells) > len(z.Cells) || len(out.Pending) > len(z.Pending)-1+len(held) {
			t.Fatalf("LazyAlloc(%v, %d, %v) = %v, %d", z, tag, fields, out, w)
		}
	})
	if waiting < 1000 || longer < 50 {
		t.Errorf("%d times a cell is pending, and %d times a heap becomes longer", waiting, longer)
	}
}
