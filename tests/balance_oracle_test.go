package tests

import (
	"fmt"

	"loop.example/refcountml/impl"
)

// state is what a second check of balance knows at a place: how often variables are owned, and the cells that are kept, only where there is something.
type state struct {
	context
	lent   []int
	owned  map[int]int
	kept   map[int]int
	parent map[int]int
	// arms has for each arm around the place, the innermost one last, its variable, its first field and the number of its fields.
	arms [][3]int
}

// stateAt returns the state at the beginning of a routine.
func stateAt(n impl.Normal, r impl.Routine) *state {
	out := &state{context: context{n, r.Params}, lent: r.Lent, owned: make(map[int]int), kept: make(map[int]int), parent: make(map[int]int)}
	for v, of := range r.Params {
		if of != 0 && !has(r.Lent, v) {
			out.owned[v] = 1
		}
	}
	return out
}

// copied returns a state of its own.
func (s *state) copied() *state {
	out := *s
	out.owned, out.kept, out.parent = make(map[int]int), make(map[int]int), make(map[int]int)
	for v, n := range s.owned {
		out.owned[v] = n
	}
	for v, n := range s.kept {
		out.kept[v] = n
	}
	for v, n := range s.parent {
		out.parent[v] = n
	}
	out.arms = append([][3]int{}, s.arms...)
	return &out
}

// alive reports whether a variable is alive, or one of which it is a part.
func (s *state) alive(v int) bool {
	for {
		if s.owned[v] > 0 || has(s.lent, v) {
			return true
		}
		x, ok := s.parent[v]
		if !ok {
			return false
		}
		v = x
	}
}

// lose takes an owner from a variable, and reports whether there was one.
func (s *state) lose(v int) bool {
	if s.owned[v] == 0 {
		return false
	}
	s.owned[v]--
	if s.owned[v] == 0 {
		delete(s.owned, v)
	}
	return true
}

// after goes through some steps, and reports whether they may be done.
func (s *state) after(steps []impl.Step) bool {
	for _, step := range steps {
		if !s.may(step) {
			return false
		}
	}
	return true
}

// may goes through one step, and reports whether it may be done.
func (s *state) may(step impl.Step) bool {
	if step.Op >= impl.OpDup {
		return s.mayCount(step.Op, step.Args[0])
	}
	of := s.defined(step)
	if len(step.Kids) > 0 {
		if !s.mayChoose(step) {
			return false
		}
	} else if !s.mayGive(step) {
		return false
	}
	if of != 0 {
		s.owned[len(s.types)] = 1
	}
	s.context = s.with(of)
	return true
}

// mayCount goes through a counting step.
func (s *state) mayCount(op int, v int) bool {
	switch op {
	case impl.OpDup:
		s.owned[v]++
		return s.owned[v] > 1 || s.copiedWithout(v).alive(v)
	case impl.OpDrop:
		return s.lose(v)
	}
	for k := len(s.arms) - 1; k >= 0; k-- {
		if s.arms[k][0] != v {
			continue
		}
		if _, there := s.kept[v]; there && op == impl.OpReuse {
			return false
		}
		if op == impl.OpReuse {
			s.kept[v] = s.arms[k][2]
		}
		for i := s.arms[k][1]; i < s.arms[k][1]+s.arms[k][2]; i++ {
			if s.types[i] != 0 {
				s.owned[i]++
			}
		}
		return s.lose(v)
	}
	return false
}

// copiedWithout returns a state in which a variable has no owner.
func (s *state) copiedWithout(v int) *state {
	out := s.copied()
	delete(out.owned, v)
	return out
}

// mayGive goes through a step that neither counts nor chooses.
func (s *state) mayGive(step impl.Step) bool {
	consumed, lent := s.handed(step)
	for _, v := range consumed {
		if !s.lose(v) {
			return false
		}
	}
	for _, v := range lent {
		if !s.alive(v) {
			return false
		}
	}
	if step.Into > 0 {
		fields, there := s.kept[step.Into-1]
		if !there || fields != len(step.Args) {
			return false
		}
		delete(s.kept, step.Into-1)
	}
	return true
}

// mayChoose goes through a step with kids.
func (s *state) mayChoose(step impl.Step) bool {
	if step.Op == impl.OpMatch && !s.alive(step.Args[0]) {
		return false
	}
	var ends []string
	var last *state
	for k, fields := range s.fieldsAt(step) {
		last = s.copied()
		last.arms = append(last.arms, [3]int{step.Args[0], len(s.types), len(fields)})
		for i := range fields {
			last.parent[len(s.types)+i] = step.Args[0]
		}
		last.context = s.with(fields...)
		if !last.after(step.Kids[k].Steps) || !last.ends(step.Kids[k].Result, len(s.types)) {
			return false
		}
		ends = append(ends, fmt.Sprint(last.owned, last.kept))
	}
	for _, end := range ends {
		if end != ends[0] {
			return false
		}
	}
	s.owned, s.kept = last.owned, last.kept
	return true
}

// ends reports whether a block may end with a Result, and nothing left of the variables from first on.
func (s *state) ends(result int, first int) bool {
	if s.types[result] != 0 && !s.lose(result) {
		return false
	}
	for v := range s.owned {
		if v >= first {
			return false
		}
	}
	for v := range s.kept {
		if v >= first {
			return false
		}
	}
	return true
}

// balanceMeaning returns what BalancedRoutine should of a routine of a valid normal form.
func balanceMeaning(n impl.Normal, f int) bool {
	s := stateAt(n, n.Routines[f])
	return s.after(n.Routines[f].Body.Steps) && s.ends(n.Routines[f].Body.Result, 0)
}

// ownedMeaning returns what OwnedAfter and AliveAfter should.
func ownedMeaning(n impl.Normal, f int, k int) (owned []int, alive []int) {
	s := stateAt(n, n.Routines[f])
	if !s.after(n.Routines[f].Body.Steps[:k]) {
		return nil, nil
	}
	for v, of := range s.types {
		owned = append(owned, s.owned[v])
		if of != 0 && s.alive(v) {
			alive = append(alive, v)
		}
	}
	return owned, alive
}
