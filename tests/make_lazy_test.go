package tests

import (
	"sync"
	"testing"

	"loop.example/refcountml/impl"
)

// lazy returns a lazy heap with some pending cells.
func lazy(cells []impl.Cell, pending ...int) impl.Lazy {
	return impl.Lazy{Cells: cells, Pending: pending}
}

// waits returns a pending cell.
func waits(tag int, fields ...int) impl.Cell {
	return live(0, tag, fields...)
}

// copyLazy returns a lazy heap of its own.
func copyLazy(z impl.Lazy) impl.Lazy {
	return lazy(copyCells(z.Cells), append([]int{}, z.Pending...)...)
}

// lazyFits reports whether a lazy heap is valid, in a second way.
func lazyFits(z impl.Lazy) bool {
	counted := copyCells(z.Cells)
	for k, i := range z.Pending {
		if i < 0 || i >= len(z.Cells) || has(z.Pending[:k], i) || z.Cells[i].Count != 0 {
			return false
		}
		counted[i].Count = 1
	}
	for _, c := range counted {
		for _, w := range c.Fields {
			if has(z.Pending, w-1000) {
				return false
			}
		}
		if c.Count < 0 {
			return false
		}
	}
	return heapFits(counted)
}

// settleMeaning returns what Settle should: it counts all references anew after each cell that it frees.
func settleMeaning(z impl.Lazy, many int) impl.Lazy {
	out := copyLazy(z)
	for ; many > 0 && len(out.Pending) > 0; many-- {
		first := out.Pending[0]
		from := outer(out.Cells)
		fields := out.Cells[first].Fields
		out.Cells[first] = free()
		out.Pending = out.Pending[1:]
		refs := refsMeaning(out.Cells)
		for i := range out.Cells {
			if out.Cells[i].Count > 0 {
				out.Cells[i].Count = from[i] + refs[i]
			}
		}
		// The order of those that come is that of the last field that points to each of them.
		for k, w := range fields {
			if i := w - 1000; w >= 1000 && out.Cells[i].Count == 0 && !has(fields[k+1:], w) {
				out.Pending = append(out.Pending, i)
			}
		}
	}
	last := 0
	for i, c := range out.Cells {
		if c.Count > 0 || has(out.Pending, i) {
			last = i + 1
		}
	}
	out.Cells = out.Cells[:last]
	return out
}

// settledMeaning returns what SettledHeap should: the cells that are reached from outside, which are counted anew.
func settledMeaning(z impl.Lazy) []impl.Cell {
	from := outer(z.Cells)
	marks := make(map[int]bool)
	for i := range z.Cells {
		if from[i] > 0 {
			reachMeaning(z.Cells, []int{1000 + i}, marks)
		}
	}
	out := make([]impl.Cell, len(z.Cells))
	last := 0
	for i, c := range copyCells(z.Cells) {
		if marks[i] {
			out[i] = c
			last = i + 1
		}
	}
	refs := refsMeaning(out)
	for i := range out {
		if marks[i] {
			out[i].Count = from[i] + refs[i]
		}
	}
	return out[:last]
}

// lazyOf returns a valid lazy heap made of a valid heap: kept cells are free, and some cells to which no field points are pending.
func (m *maker) lazyOf(h []impl.Cell) impl.Lazy {
	out := lazy(copyCells(h))
	last := 0
	for i, c := range out.Cells {
		if c.Count == -1 {
			out.Cells[i] = free()
		} else if c.Count > 0 {
			last = i + 1
		}
	}
	out.Cells = out.Cells[:last]
	refs := refsMeaning(out.Cells)
	for _, i := range m.order(last) {
		if out.Cells[i].Count > 0 && refs[i] == 0 && m.pick(2) == 0 {
			out.Cells[i].Count = 0
			out.Pending = append(out.Pending, i)
		}
	}
	return out
}

// lazies returns valid lazy heaps, made only once.
var lazies = sync.OnceValue(makeLazies)

// makeLazies makes them.
func makeLazies() []impl.Lazy {
	out := []impl.Lazy{{}, lazy(heap(waits(0)), 0), lazy(heap(waits(99, 1, 2, 3)), 0), lazy(heap(free(), free(), waits(5)), 2)}
	m := maker{seed: 2101}
	for _, h := range heaps() {
		out = append(out, m.lazyOf(h))
	}
	return out
}

// spoiltLazy returns a lazy heap of its own with a change, which may leave it valid.
func (m *maker) spoiltLazy(z impl.Lazy) impl.Lazy {
	out := copyLazy(z)
	many := len(out.Cells)
	switch m.pick(8) {
	case 0:
		out.Pending = append(out.Pending, m.pick(many+3)-1)
	case 1:
		if len(out.Pending) > 0 {
			out.Pending = out.Pending[1:]
		}
	case 2:
		if len(out.Pending) > 0 {
			out.Pending[m.pick(len(out.Pending))] = m.pick(many+2) - 1
		}
	case 3:
		// A cell that is not referred to may be pending, whatever its count was.
		if many > 0 {
			i := m.pick(many)
			out.Cells[i].Count = 0
			out.Pending = append(out.Pending, i)
		}
	case 4:
		// A pending cell is referred to again, or only counted.
		if len(out.Pending) > 0 {
			c := &out.Cells[m.pick(many)]
			c.Fields = append(c.Fields, 1000+m.pickOf(out.Pending))
		}
	case 5:
		if len(out.Pending) > 0 {
			out.Cells[m.pickOf(out.Pending)].Count = m.pick(3) - 1
		}
	default:
		out.Cells = m.spoiltHeap(out.Cells)
	}
	return out
}

// showLazy returns the text of a lazy heap: that of its cells, in which those that are pending have no count, and what is pending.
func showLazy(z impl.Lazy) string {
	out := make([]impl.Cell, len(z.Cells))
	for i, c := range z.Cells {
		out[i] = c
		if has(z.Pending, i) {
			out[i].Count = 1000000
		}
	}
	return showHeap(out) + text(z.Pending)
}

// The promises say little if the lazy heaps that they are tried with are all alike.
func TestLazyHeapsAreOfAllKinds(t *testing.T) {
	marks := make(map[string]int)
	for _, z := range lazies() {
		if !lazyFits(z) {
			t.Fatalf("the lazy heap %v is not valid", z)
		}
		marks["heap"]++
		for k, i := range z.Pending {
			marks["pending"]++
			if k > 0 {
				marks["further"]++
			}
			if i == len(z.Cells)-1 {
				marks["last"]++
			}
			fields := z.Cells[i].Fields
			for n, w := range fields {
				switch {
				case w < 1000:
					marks["integer"]++
				case has(fields[:n], w):
					marks["twice"]++
				case z.Cells[w-1000].Count == refsMeaning(z.Cells)[w-1000]:
					marks["inner"]++
				default:
					marks["outer"]++
				}
			}
		}
		for i, c := range z.Cells {
			if c.Count == 0 && !has(z.Pending, i) {
				marks["free"]++
			}
		}
	}
	for _, what := range []string{"heap", "pending", "further", "last", "integer", "twice", "inner", "outer", "free"} {
		if marks[what] < 80 {
			t.Errorf("only %d of what there is are %s", marks[what], what)
		}
	}
}
