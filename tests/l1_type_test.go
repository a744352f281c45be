package tests

import (
	"testing"

	"loop.example/refcountml/impl"
)

// menu returns declarations that are put together in all ways.
func menu() []impl.Decl {
	return []impl.Decl{
		data(), dataOf(nil, nil, nil), dataOf(nil, []int{0, 1}), dataOf([]int{1}), dataOf([]int{2}, []int{0, 3, 0}),
		dataOf([]int{3}, nil), dataOf([]int{2, 2}), arrow(0, 0), arrow(0, 1), arrow(2, 0), arrow(3, 3), arrow(4, 1),
	}
}

// allDecls returns all lists of at most three declarations of the menu, and some of four.
func allDecls() [][]impl.Decl {
	out := [][]impl.Decl{nil}
	from := 0
	for size := 1; size <= 3; size++ {
		end := len(out)
		for ; from < end; from++ {
			for _, d := range menu() {
				out = append(out, withDecl(out[from], d))
			}
		}
	}
	for i, three := range out[from:] {
		out = append(out, withDecl(three, menu()[(i+i/7)%len(menu())]))
	}
	return out
}

// fieldsAreTypes reports whether all fields of a declaration are types, where these are the numbers 0 to last.
func fieldsAreTypes(d impl.Decl, last int) bool {
	for _, c := range d.Cons {
		for _, t := range c.Fields {
			if t < 0 || t > last {
				return false
			}
		}
	}
	return true
}

// declsFit reports what ValidTypes should of declarations of the menu.
func declsFit(decls []impl.Decl) bool {
	for k, d := range decls {
		if !fieldsAreTypes(d, len(decls)) || d.From > len(decls) || d.To > len(decls) {
			return false
		}
		for _, other := range decls[:k] {
			if len(d.Cons) == 0 && len(other.Cons) == 0 && d.From == other.From && d.To == other.To {
				return false
			}
		}
	}
	return true
}

// validDecls returns declarations that are valid.
func validDecls() [][]impl.Decl {
	var out [][]impl.Decl
	for _, decls := range allDecls() {
		if declsFit(decls) {
			out = append(out, decls)
		}
	}
	return out
}

func TestValidTypesOfAllDeclarations(t *testing.T) {
	for _, decls := range allDecls() {
		if impl.ValidTypes(decls) != declsFit(decls) {
			t.Fatalf("ValidTypes(%v) = %v", decls, !declsFit(decls))
		}
	}
}

func TestValidTypesAtLimits(t *testing.T) {
	full := dataOf([]int{0, 4, 1}, []int{4, 4, 4}, []int{0, 0, 0})
	good := [][]impl.Decl{
		nil,
		{},
		{full, full, full, full},
		{arrow(1, 1)},
		{arrow(0, 1), arrow(1, 0), arrow(0, 0), arrow(4, 4)},
		{dataOf([]int{1})},
		{data(), data()},
	}
	for _, decls := range good {
		if !impl.ValidTypes(decls) {
			t.Errorf("ValidTypes(%v) = false", decls)
		}
	}
	for _, decls := range badDecls() {
		if impl.ValidTypes(decls) {
			t.Errorf("ValidTypes(%v) = true", decls)
		}
	}
}

// badDecls returns declarations that are not valid, each for one reason.
func badDecls() [][]impl.Decl {
	return [][]impl.Decl{
		{data(), data(), data(), data(), data()},
		{arrow(0, 0), arrow(0, 1), arrow(0, 2), arrow(0, 3), arrow(0, 4)},
		{dataOf(nil, nil, nil, nil)},
		{dataOf([]int{0, 0, 0, 0})},
		{data(), dataOf(nil, nil, []int{0, 0, 0, 0})},
		{dataOf([]int{2})},
		{dataOf([]int{-1})},
		{dataOf(nil, nil, []int{0, 0, 2})},
		{{From: 1, Cons: []impl.Con{{}}}},
		{{To: 1, Cons: []impl.Con{{}}}},
		{{From: -1, Cons: []impl.Con{{}}}},
		{arrow(2, 0)},
		{arrow(0, 2)},
		{arrow(-1, 0)},
		{arrow(0, -1)},
		{arrow(0, 0), arrow(0, 0)},
		{arrow(0, 1), data(), data(), arrow(0, 1)},
		{data(), arrow(2, 2), arrow(2, 2)},
	}
}

func TestInvalidDeclarations(t *testing.T) {
	for _, d := range badDecls() {
		if n := impl.ConCount(d); n != -1 {
			t.Errorf("ConCount(%v) = %d", d, n)
		}
		for n := -1; n <= 5; n++ {
			if impl.ConType(d, n) != -1 || len(impl.ConFields(d, n)) != 0 || len(impl.ConsOf(d, n)) != 0 {
				t.Errorf("%v has the constructor or the type %d", d, n)
			}
			for to := -1; to <= 5; to++ {
				if impl.ArrowOf(d, n, to) != -1 {
					t.Errorf("ArrowOf(%v, %d, %d) is a type", d, n, to)
				}
			}
		}
		if list := impl.Inhabited(d); len(list) != 0 {
			t.Errorf("Inhabited(%v) = %v", d, list)
		}
	}
}

func TestP1DataTypesCanBeAdded(t *testing.T) {
	for _, d := range validDecls() {
		full := dataOf([]int{0, len(d) + 1, 0}, nil, []int{len(d)})
		fits := len(d) < impl.MaxDecls
		if impl.ValidTypes(withDecl(d, data())) != fits || impl.ValidTypes(withDecl(d, full)) != fits {
			t.Fatalf("ValidTypes of %v with a data type more", d)
		}
	}
}

func TestP2ArrowTypesAreToldApart(t *testing.T) {
	for _, d := range validDecls() {
		for _, one := range d {
			if len(one.Cons) == 0 && impl.ValidTypes(withDecl(d, one)) {
				t.Fatalf("ValidTypes of %v with %v once more", d, one)
			}
		}
	}
}

func TestP3ConstructorsAreThoseOfAllTypes(t *testing.T) {
	for _, d := range validDecls() {
		sum, declared := 0, 0
		for of := 0; of <= len(d); of++ {
			sum += len(impl.ConsOf(d, of))
		}
		for _, one := range d {
			declared += len(one.Cons)
		}
		if n := impl.ConCount(d); n != sum || n != declared {
			t.Fatalf("ConCount(%v) = %d", d, n)
		}
	}
}

func TestP4ConstructorsBelongToOneType(t *testing.T) {
	for _, d := range validDecls() {
		for c := 0; c < impl.ConCount(d); c++ {
			for of := -1; of <= len(d)+1; of++ {
				if has(impl.ConsOf(d, of), c) != (of == impl.ConType(d, c)) {
					t.Fatalf("ConType(%v, %d) = %d, and ConsOf %d is %v", d, c, impl.ConType(d, c), of, impl.ConsOf(d, of))
				}
			}
		}
	}
}

func TestP5ConstructorsAreNumberedByTypes(t *testing.T) {
	for _, d := range validDecls() {
		count := impl.ConCount(d)
		before := 1
		for c := 0; c < count; c++ {
			of := impl.ConType(d, c)
			if of < before || of > len(d) {
				t.Fatalf("ConType(%v, %d) = %d", d, c, of)
			}
			before = of
		}
		for _, c := range []int{-1000, -1, count, count + 1, 1000000} {
			if impl.ConType(d, c) != -1 || len(impl.ConFields(d, c)) != 0 {
				t.Fatalf("%v has the constructor %d", d, c)
			}
		}
	}
}

func TestP6FieldsAreThoseThatAreDeclared(t *testing.T) {
	for _, d := range validDecls() {
		c := 0
		for k, one := range d {
			for _, con := range one.Cons {
				if impl.ConType(d, c) != k+1 || !same(impl.ConFields(d, c), con.Fields...) {
					t.Fatalf("ConFields(%v, %d) = %v", d, c, impl.ConFields(d, c))
				}
				c++
			}
		}
	}
}

func TestP7ConstructorsOfATypeAreNeighbours(t *testing.T) {
	for _, d := range validDecls() {
		next := 0
		for k, one := range d {
			cons := impl.ConsOf(d, k+1)
			if len(cons) != len(one.Cons) {
				t.Fatalf("ConsOf(%v, %d) = %v", d, k+1, cons)
			}
			for _, c := range cons {
				if c != next {
					t.Fatalf("ConsOf(%v, %d) = %v", d, k+1, cons)
				}
				next++
			}
		}
		for _, of := range []int{-1000, -1, 0, len(d) + 1, 1000000} {
			if len(impl.ConsOf(d, of)) != 0 {
				t.Fatalf("ConsOf(%v, %d) = %v", d, of, impl.ConsOf(d, of))
			}
		}
	}
}

func TestP8ArrowTypesHaveTheirEnds(t *testing.T) {
	for _, d := range validDecls() {
		for from := -1; from <= len(d)+1; from++ {
			for to := -1; to <= len(d)+1; to++ {
				of := impl.ArrowOf(d, from, to)
				if of == -1 {
					continue
				}
				if of < 1 || of > len(d) || len(d[of-1].Cons) != 0 || d[of-1].From != from || d[of-1].To != to {
					t.Fatalf("ArrowOf(%v, %d, %d) = %d", d, from, to, of)
				}
			}
		}
	}
}

func TestP9EachArrowTypeIsFound(t *testing.T) {
	found := 0
	for _, d := range validDecls() {
		for k, one := range d {
			if len(one.Cons) > 0 {
				continue
			}
			found++
			if of := impl.ArrowOf(d, one.From, one.To); of != k+1 {
				t.Fatalf("ArrowOf(%v, %d, %d) = %d", d, one.From, one.To, of)
			}
		}
	}
	if found == 0 {
		t.Error("there is no arrow type")
	}
}

func TestArrowOfDataTypes(t *testing.T) {
	if of := impl.ArrowOf([]impl.Decl{data(), arrow(0, 0), arrow(0, 1)}, 0, 0); of != 2 {
		t.Errorf("ArrowOf after a data type = %d", of)
	}
	if of := impl.ArrowOf([]impl.Decl{data(), arrow(0, 1)}, 0, 0); of != -1 {
		t.Errorf("ArrowOf of a data type = %d", of)
	}
	if of := impl.ArrowOf(nil, 0, 0); of != -1 {
		t.Errorf("ArrowOf of no declarations = %d", of)
	}
}

// fillable reports whether a data type has a constructor all of whose fields are in a set.
func fillable(d impl.Decl, set []int) bool {
	for _, c := range d.Cons {
		if partOf(c.Fields, set) {
			return true
		}
	}
	return false
}

func TestP10TypesHaveValuesIfAConstructorCanBeFilled(t *testing.T) {
	for _, d := range validDecls() {
		set := impl.Inhabited(d)
		if !ascends(set) || !has(set, 0) {
			t.Fatalf("Inhabited(%v) = %v", d, set)
		}
		for k, one := range d {
			if has(set, k+1) != (len(one.Cons) == 0 || fillable(one, set)) {
				t.Fatalf("Inhabited(%v) = %v", d, set)
			}
		}
	}
}

// hasValue reports whether a type has a value of at most some depth.
func hasValue(decls []impl.Decl, of int, depth int) bool {
	if of == 0 || len(decls[of-1].Cons) == 0 {
		return true
	}
	for _, c := range decls[of-1].Cons {
		filled := depth > 0
		for _, field := range c.Fields {
			filled = filled && hasValue(decls, field, depth-1)
		}
		if filled {
			return true
		}
	}
	return false
}

// The promise also holds of sets that are too large: a type that needs itself alone is in the smallest one only with a value.
func TestInhabitedIsTheSmallestSet(t *testing.T) {
	for _, d := range validDecls() {
		var want []int
		for of := 0; of <= len(d); of++ {
			if hasValue(d, of, len(d)) {
				want = append(want, of)
			}
		}
		if !same(impl.Inhabited(d), want...) {
			t.Fatalf("Inhabited(%v) = %v, want %v", d, impl.Inhabited(d), want)
		}
	}
}

func TestInhabitedTypes(t *testing.T) {
	// Each type needs the next one, so that each round finds only one more.
	chain := []impl.Decl{dataOf([]int{2}), dataOf([]int{3}), dataOf([]int{4}), data()}
	if list := impl.Inhabited(chain); !same(list, 0, 1, 2, 3, 4) {
		t.Errorf("Inhabited of a chain = %v", list)
	}
	ring := []impl.Decl{dataOf([]int{2}), dataOf([]int{3}), dataOf([]int{4}), dataOf([]int{1})}
	if list := impl.Inhabited(ring); !same(list, 0) {
		t.Errorf("Inhabited of a ring = %v", list)
	}
	mixed := []impl.Decl{dataOf([]int{1}), arrow(1, 1), dataOf([]int{2, 1}, []int{3}), dataOf([]int{2, 0})}
	if list := impl.Inhabited(mixed); !same(list, 0, 2, 4) {
		t.Errorf("Inhabited of arrow types = %v", list)
	}
	if list := impl.Inhabited(nil); !same(list, 0) {
		t.Errorf("Inhabited of no declarations = %v", list)
	}
}

func TestP11MoreConstructorsMakeMoreValues(t *testing.T) {
	for _, d := range validDecls() {
		for k, one := range d {
			if len(one.Cons) == 0 || len(one.Cons) == impl.MaxCons {
				continue
			}
			more := withDecl(nil, d[0])
			for _, other := range d[1:] {
				more = append(more, other)
			}
			more[k] = impl.Decl{Cons: append(dataOf().Cons, one.Cons...)}
			more[k].Cons = append(more[k].Cons, impl.Con{})
			if set := impl.Inhabited(more); !has(set, k+1) || !partOf(impl.Inhabited(d), set) {
				t.Fatalf("Inhabited(%v) = %v", more, set)
			}
		}
	}
}
