package tests

import (
	"sync"
	"testing"

	"loop.example/refcountml/impl"
)

// memory returns a memory of some words; the last four numbers are those of Free.
func memory(numbers ...int) impl.Memory {
	last := len(numbers) - 4
	return impl.Memory{Words: numbers[:last], Free: numbers[last:]}
}

// copyMemory returns a memory of its own.
func copyMemory(m impl.Memory) impl.Memory {
	return impl.Memory{Words: append([]int{}, m.Words...), Free: append([]int{}, m.Free...)}
}

// addressesIn returns the addresses of the blocks of some words; false if there are gaps between them.
func addressesIn(words []int) ([]int, bool) {
	var out []int
	for at := 0; at != len(words); {
		if at+2 > len(words) || words[at] < 0 || words[at+1] < 0 {
			return nil, false
		}
		out = append(out, at)
		if at += 2 + words[at+1]&3; at > len(words) {
			return nil, false
		}
	}
	return out, true
}

// fieldsIn returns the fields of the block at an address.
func fieldsIn(words []int, at int) []int {
	return words[at+2 : at+2+words[at+1]&3]
}

// freeBlocks returns the addresses of the free blocks of a valid memory with some fields, in the order of their list.
func freeBlocks(m impl.Memory, fields int) []int {
	var out []int
	for link := m.Free[fields]; link != 0; link = m.Words[link] >> 2 {
		out = append(out, link-1)
	}
	return out
}

// heapMeaning returns what HeapOf should, and true; false if the memory is not valid. It is a second way to check that, too.
func heapMeaning(m impl.Memory) ([]impl.Cell, bool) {
	addresses, ok := addressesIn(m.Words)
	if !ok || len(m.Free) != 4 {
		return nil, false
	}
	index := make(map[int]int)
	unlinked := make(map[int]bool)
	for i, at := range addresses {
		index[at] = i
		unlinked[at] = m.Words[at] == 0
	}
	for fields, link := range m.Free {
		for ; link != 0; link = m.Words[link] / 4 {
			at := link - 1
			if _, there := index[at]; !there || !unlinked[at] || len(fieldsIn(m.Words, at)) != fields {
				return nil, false
			}
			unlinked[at] = false
		}
	}
	var out []impl.Cell
	last := 0
	for i, at := range addresses {
		c := free()
		for _, w := range fieldsIn(m.Words, at) {
			to, points := index[w-1000]
			switch {
			case m.Words[at] == 0 && w != 0, w >= 1000 && !points:
				return nil, false
			case w >= 1000:
				w = 1000 + to
			}
			c.Fields = append(c.Fields, w)
		}
		if m.Words[at] == 0 {
			if unlinked[at] {
				return nil, false
			}
			c = free()
		} else {
			c.Count, c.Tag = m.Words[at], m.Words[at+1]/4
			last = i + 1
		}
		out = append(out, c)
	}
	out = out[:last]
	return out, heapFits(out)
}

// addressOf returns the address of the block with an index of a valid memory.
func addressOf(m impl.Memory, i int) int {
	addresses, _ := addressesIn(m.Words)
	return addresses[i]
}

// dropBlockMeaning drops a word of a memory, which is its own, and what its block frees, one field after the other.
func dropBlockMeaning(m impl.Memory, w int) {
	at := w - 1000
	if at < 0 {
		return
	}
	if m.Words[at]--; m.Words[at] > 0 {
		return
	}
	here := fieldsIn(m.Words, at)
	fields := append([]int{}, here...)
	for k := range here {
		here[k] = 0
	}
	m.Words[at+1] = 4*m.Free[len(fields)] + len(fields)
	m.Free[len(fields)] = at + 1
	for _, field := range fields {
		dropBlockMeaning(m, field)
	}
}

// memoryOf returns a valid memory made of a valid heap, with free blocks of some sizes for cells that are not live and at the end, in free lists of some order.
func (m *maker) memoryOf(h []impl.Cell) impl.Memory {
	cells := append(copyCells(h), make([]impl.Cell, m.pick(3))...)
	addresses := []int{0}
	for i, c := range cells {
		if c.Count <= 0 {
			cells[i] = impl.Cell{Fields: make([]int, m.pick(4))}
		}
		addresses = append(addresses, addresses[i]+2+len(cells[i].Fields))
	}
	out := impl.Memory{Free: make([]int, 4)}
	for _, c := range cells {
		out.Words = append(out.Words, max(0, c.Count), 4*c.Tag+len(c.Fields))
		for _, w := range c.Fields {
			if w >= 1000 {
				w = 1000 + addresses[w-1000]
			}
			out.Words = append(out.Words, w)
		}
	}
	for _, i := range m.order(len(cells)) {
		if cells[i].Count <= 0 {
			fields := len(cells[i].Fields)
			out.Words[addresses[i]+1] += 4 * out.Free[fields]
			out.Free[fields] = addresses[i] + 1
		}
	}
	return out
}

// memories returns valid memories, made only once.
var memories = sync.OnceValue(makeMemories)

// makeMemories makes them.
func makeMemories() []impl.Memory {
	out := []impl.Memory{memory(0, 0, 0, 0), memory(0, 0, 1, 0, 0, 0), memory(0, 3, 0, 0, 0, 0, 0, 0, 1), memory(999999, 99*4, 0, 0, 0, 0)}
	m := maker{seed: 2201}
	for _, h := range heaps() {
		out = append(out, m.memoryOf(h))
	}
	return out
}

// spoiltMemory returns a memory of its own with a change, which may leave it valid.
func (m *maker) spoiltMemory(old impl.Memory) impl.Memory {
	out := copyMemory(old)
	if len(out.Words) == 0 || m.pick(12) == 0 {
		out.Words = append(out.Words, make([]int, m.pick(5))...)
		return out
	}
	addresses, _ := addressesIn(old.Words)
	at := m.pickOf(addresses)
	k := m.pick(4)
	switch m.pick(10) {
	case 0:
		out.Words[at] += m.pick(3) - 1
	case 1:
		out.Words[at] = m.pickOf([]int{-1, 0, 1, 2, 999999, 1000000, 1 << 62})
	case 2:
		out.Words[at+1] += 4 * (m.pick(3) - 1)
	case 3:
		out.Words[at+1] = m.pickOf([]int{-4, -1, 0, 1, 2, 3, 4*99 + k, 4*100 + k, 1 << 62, 1<<63 - 1})
	case 4:
		out.Words[m.pick(len(out.Words))] = m.pickOf([]int{0, 999, 1000, -999, -1000, 1000 + at, 1000 + m.pickOf(addresses), 1001 + at, 1000 + len(out.Words)})
	case 5:
		out.Free[k] = m.pickOf([]int{0, -1, 1 + at, at, 2 + at, len(out.Words) + 1, 1 << 62, -1 << 63})
	case 6:
		// One free list has what another one should, or two blocks change their places.
		other := m.pick(4)
		out.Free[k], out.Free[other] = out.Free[other], out.Free[k]
	case 7:
		// A free block leads to some other block.
		if out.Words[at] == 0 {
			out.Words[at+1] = 4*(1+m.pickOf(addresses)) + out.Words[at+1]%4
		}
	case 8:
		out.Words = out.Words[:m.pick(len(out.Words))]
	case 9:
		out.Free = append(out.Free[:m.pick(5)], 0)
	}
	return out
}

// The promises say little if the memories that they are tried with are all alike.
func TestMemoriesAreOfAllKinds(t *testing.T) {
	marks := make(map[string]int)
	for _, m := range memories() {
		if _, ok := heapMeaning(m); !ok {
			t.Fatalf("the memory %v is not valid", m)
		}
		for fields := range m.Free {
			list := freeBlocks(m, fields)
			marks["free"] += len(list)
			if len(list) > 1 {
				marks["further"]++
			}
			if !ascends(list) {
				marks["unordered"]++
			}
		}
		addresses, _ := addressesIn(m.Words)
		for i, at := range addresses {
			if m.Words[at] > 0 {
				marks["live"]++
			} else if i == len(addresses)-1 {
				marks["last"]++
			}
			for _, w := range fieldsIn(m.Words, at) {
				if w >= 1000 {
					marks["pointer"]++
				}
			}
		}
	}
	for _, what := range []string{"free", "further", "unordered", "live", "last", "pointer"} {
		if marks[what] < 200 {
			t.Errorf("only %d of what there is are %s", marks[what], what)
		}
	}
}
