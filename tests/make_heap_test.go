package tests

import (
	"sync"
	"testing"

	"loop.example/refcountml/impl"
)

// live returns a live cell, or what else there is with a count.
func live(count int, tag int, fields ...int) impl.Cell {
	return impl.Cell{Count: count, Tag: tag, Fields: fields}
}

// free and keep return a free cell and a kept one.
func free() impl.Cell           { return impl.Cell{} }
func keep(fields int) impl.Cell { return impl.Cell{Count: -1, Fields: make([]int, fields)} }

// heap returns a heap.
func heap(cells ...impl.Cell) []impl.Cell {
	return cells
}

// copyCells returns a heap of its own.
func copyCells(h []impl.Cell) []impl.Cell {
	var out []impl.Cell
	for _, c := range h {
		out = append(out, live(c.Count, c.Tag, append([]int{}, c.Fields...)...))
	}
	return out
}

// pointers returns the pointers to the live cells of a heap.
func pointers(h []impl.Cell) []int {
	var out []int
	for i, c := range h {
		if c.Count > 0 {
			out = append(out, 1000+i)
		}
	}
	return out
}

// refsMeaning returns the number of fields that point to each cell.
func refsMeaning(h []impl.Cell) map[int]int {
	out := make(map[int]int)
	for _, c := range h {
		for _, w := range c.Fields {
			if w >= 1000 {
				out[w-1000]++
			}
		}
	}
	return out
}

// circles reports whether a cell reaches one of the cells on the way to it.
func circles(h []impl.Cell, i int, way []int) bool {
	if has(way, i) {
		return true
	}
	for _, w := range h[i].Fields {
		if w >= 1000 && circles(h, w-1000, append(append([]int{}, way...), i)) {
			return true
		}
	}
	return false
}

// heapFits reports whether a heap is valid, in a second way.
func heapFits(h []impl.Cell) bool {
	for i, c := range h {
		alive := c.Count >= 1 && c.Count <= 999999
		switch {
		case len(c.Fields) > 3, i == len(h)-1 && c.Count == 0:
			return false
		case alive:
			if c.Tag < 0 || c.Tag > 99 {
				return false
			}
		case c.Count != 0 && c.Count != -1 || c.Tag != 0 || c.Count == 0 && len(c.Fields) > 0:
			return false
		}
		for _, w := range c.Fields {
			points := w >= 1000 && w-1000 < len(h) && h[w-1000].Count > 0
			if fits := w == 0 || alive && (points || w >= -999 && w <= 999); !fits {
				return false
			}
		}
	}
	refs := refsMeaning(h)
	for i, c := range h {
		if c.Count > 0 && (refs[i] > c.Count || circles(h, i, nil)) {
			return false
		}
	}
	return true
}

// reachMeaning marks the live cells that some words reach.
func reachMeaning(h []impl.Cell, words []int, marks map[int]bool) {
	for _, w := range words {
		if i := w - 1000; w >= 1000 && i < len(h) && h[i].Count > 0 && !marks[i] {
			marks[i] = true
			reachMeaning(h, h[i].Fields, marks)
		}
	}
}

// marked returns the numbers less than n that are marked, ascending.
func marked(marks map[int]bool, n int) []int {
	var out []int
	for i := 0; i < n; i++ {
		if marks[i] {
			out = append(out, i)
		}
	}
	return out
}

// outer returns how often each live cell is referred to from outside of a heap.
func outer(h []impl.Cell) map[int]int {
	refs := refsMeaning(h)
	out := make(map[int]int)
	for i, c := range h {
		if c.Count > 0 {
			out[i] = c.Count - refs[i]
		}
	}
	return out
}

// dropMeaning returns what DropWord should for a pointer that it can drop: the cells that are still reached from outside stay, and are counted anew.
func dropMeaning(h []impl.Cell, w int) []impl.Cell {
	from := outer(h)
	from[w-1000]--
	marks := make(map[int]bool)
	for i := range h {
		if from[i] > 0 {
			reachMeaning(h, []int{1000 + i}, marks)
		}
	}
	out := copyCells(h)
	for i, c := range h {
		if c.Count > 0 && !marks[i] {
			out[i] = free()
		}
	}
	refs := refsMeaning(out)
	for i := range out {
		if marks[i] {
			out[i].Count = from[i] + refs[i]
		}
	}
	for len(out) > 0 && out[len(out)-1].Count == 0 {
		out = out[:len(out)-1]
	}
	return out
}

// heapOf returns a valid heap of some cells, in which pointers go up and down.
func (m *maker) heapOf(cells int) []impl.Cell {
	out := make([]impl.Cell, cells)
	var made []int
	for _, i := range m.order(cells) {
		switch m.pick(6) {
		case 0:
		case 1:
			out[i] = keep(m.pick(4))
		default:
			out[i] = live(1, m.pick(100))
			for k := m.pick(4); k > 0; k-- {
				out[i].Fields = append(out[i].Fields, m.wordTo(made))
			}
			made = append(made, i)
		}
	}
	refs := refsMeaning(out)
	for _, i := range made {
		out[i].Count = max(1, refs[i]+m.pick(3))
		if m.pick(20) == 0 {
			out[i].Count = 999999 - m.pick(2)
		}
	}
	for len(out) > 0 && out[len(out)-1].Count == 0 {
		out = out[:len(out)-1]
	}
	return out
}

// order returns the numbers less than n in some order.
func (m *maker) order(n int) []int {
	var out []int
	for i := 0; i < n; i++ {
		at := m.pick(len(out) + 1)
		out = append(append(append([]int{}, out[:at]...), i), out[at:]...)
	}
	return out
}

// wordTo returns an integer, or mostly a pointer to one of some cells.
func (m *maker) wordTo(cells []int) int {
	if len(cells) == 0 || m.pick(3) == 0 {
		return m.pick(1999) - 999
	}
	return 1000 + m.pickOf(cells)
}

// heaps returns valid heaps, made only once.
var heaps = sync.OnceValue(makeHeaps)

// makeHeaps makes them.
func makeHeaps() [][]impl.Cell {
	out := [][]impl.Cell{nil, heap(keep(0)), heap(keep(3)), heap(live(1, 0)), heap(free(), live(1, 99))}
	m := maker{seed: 140}
	for n := 0; n < 1500; n++ {
		out = append(out, m.heapOf(1+n%11))
	}
	return out
}

// spoiltHeap returns a heap of its own with a change, which may leave it valid.
func (m *maker) spoiltHeap(h []impl.Cell) []impl.Cell {
	out := copyCells(h)
	if len(out) == 0 {
		return heap(live(m.pick(4)-2, m.pick(3)-1, 0))
	}
	c := &out[m.pick(len(out))]
	switch m.pick(8) {
	case 0:
		c.Count += m.pick(3) - 1
	case 1:
		c.Count = m.pickOf([]int{-2, -1, 0, 1, 2, 999999, 1000000})
	case 2:
		c.Tag = m.pickOf([]int{-1, 0, 1, 99, 100})
	case 3, 4:
		c.Fields = append(c.Fields, 999+m.pick(len(out)+2))
	case 5, 6:
		if len(c.Fields) > 0 {
			c.Fields[m.pick(len(c.Fields))] = m.pickOf([]int{0, -999, -1000, 999, 1000 + m.pick(len(out)+1), 1000 + m.pick(len(out))})
		}
	case 7:
		out = append(out[:m.pick(len(out))], live(m.pick(3)-1, 0))
	}
	return out
}

// chain returns a heap in which each cell points to the one before.
func chain(cells int) []impl.Cell {
	var out []impl.Cell
	for i := 0; i < cells; i++ {
		c := live(1, i%100, -1)
		if i > 0 {
			c.Fields[0] = 999 + i
		}
		out = append(out, c)
	}
	return out
}

// backChain returns a heap in which each cell points to the one after it, and the last one to an integer.
func backChain(cells int) []impl.Cell {
	out := chain(cells)
	for i := range out {
		out[i].Fields[0] = 1001 + i
	}
	out[cells-1].Fields[0] = 0
	return out
}

// The promises say little if the heaps that they are tried with are all alike.
func TestHeapsHaveAllCells(t *testing.T) {
	marks := make(map[string]int)
	for _, h := range heaps() {
		if !heapFits(h) {
			t.Fatalf("the heap %v is not valid", h)
		}
		refs := refsMeaning(h)
		for i, c := range h {
			marks[[]string{"kept", "free", "live"}[min(1, c.Count)+1]]++
			if c.Count > 0 && c.Count == refs[i] {
				marks["inner"]++
			}
			if c.Count > refs[i] && refs[i] > 0 {
				marks["both"]++
			}
			if c.Count == 999999 {
				marks["full"]++
			}
			for k, w := range c.Fields {
				if w >= 1000 {
					marks[[]string{"down", "up"}[min(1, max(0, w-1000-i))]]++
					if has(c.Fields[:k], w) {
						marks["twice"]++
					}
				}
			}
		}
	}
	for _, what := range []string{"kept", "free", "live", "inner", "both", "full", "down", "up", "twice"} {
		if marks[what] < 100 {
			t.Errorf("only %d cells or fields are %s", marks[what], what)
		}
	}
}
