package impl

// MaxDecls is the largest number of declarations.
const MaxDecls = 4

// MaxCons is the largest number of constructors of a data type.
const MaxCons = 3

// MaxFields is the largest number of fields of a constructor.
const MaxFields = 3

// Con is a constructor: the types of its fields.
type Con struct {
	Fields []int
}

// Decl is the declaration of a data type, or of an arrow type.
type Decl struct {
	From int
	To   int
	Cons []Con
}

// ValidTypes reports whether declarations are valid.
func ValidTypes(decls []Decl) bool {
	if len(decls) > MaxDecls {
		return false
	}
	for k := range decls {
		if !validDecl(decls, k) {
			return false
		}
	}
	return true
}

// validDecl reports whether one of at most MaxDecls declarations is valid.
func validDecl(decls []Decl, k int) bool {
	d := decls[k]
	if len(d.Cons) > 0 {
		return d.From == 0 && d.To == 0 && validCons(decls, d.Cons)
	}
	// Only the declarations before are searched: of two equal arrow types the later one is found out.
	return isType(decls, d.From) && isType(decls, d.To) && arrowBetween(decls[:k], d.From, d.To) < 0
}

// validCons reports whether the constructors of a data type are valid.
func validCons(decls []Decl, cons []Con) bool {
	if len(cons) > MaxCons {
		return false
	}
	for _, c := range cons {
		if len(c.Fields) > MaxFields || !areTypes(decls, c.Fields) {
			return false
		}
	}
	return true
}

// isType reports whether a number is a type.
func isType(decls []Decl, t int) bool {
	return t >= 0 && t <= len(decls)
}

// areTypes reports whether all numbers of a list are types.
func areTypes(decls []Decl, list []int) bool {
	for _, t := range list {
		if !isType(decls, t) {
			return false
		}
	}
	return true
}

// isData reports whether a number is a data type.
func isData(decls []Decl, t int) bool {
	return t > 0 && isType(decls, t) && len(decls[t-1].Cons) > 0
}

// isArrow reports whether a number is an arrow type.
func isArrow(decls []Decl, t int) bool {
	return t > 0 && isType(decls, t) && len(decls[t-1].Cons) == 0
}

// ConCount returns the number of constructors.
func ConCount(decls []Decl) int {
	if !ValidTypes(decls) {
		return -1
	}
	return countCons(decls)
}

// countCons returns the number of constructors of declarations that need not be all.
func countCons(decls []Decl) int {
	n := 0
	for _, d := range decls {
		n += len(d.Cons)
	}
	return n
}

// firstCon returns the number of the first constructor of a data type.
func firstCon(decls []Decl, t int) int {
	return countCons(decls[:t-1])
}

// ConType returns the type of a constructor.
func ConType(decls []Decl, c int) int {
	if !ValidTypes(decls) {
		return -1
	}
	return typeOfCon(decls, c)
}

// typeOfCon returns the type of a constructor of valid declarations.
func typeOfCon(decls []Decl, c int) int {
	first := 0
	for k, d := range decls {
		if c >= first && c < first+len(d.Cons) {
			return k + 1
		}
		first += len(d.Cons)
	}
	return -1
}

// ConFields returns the types of the fields of a constructor.
func ConFields(decls []Decl, c int) []int {
	if ConType(decls, c) < 0 {
		return nil
	}
	return copyInts(fieldsOfCon(decls, c))
}

// fieldsOfCon returns the declared fields, not a copy, of a constructor that there is.
func fieldsOfCon(decls []Decl, c int) []int {
	t := typeOfCon(decls, c)
	return decls[t-1].Cons[c-firstCon(decls, t)].Fields
}

// ConsOf returns the constructors of a type.
func ConsOf(decls []Decl, t int) []int {
	if !ValidTypes(decls) || !isData(decls, t) {
		return nil
	}
	first := firstCon(decls, t)
	var out []int
	for k := range decls[t-1].Cons {
		out = append(out, first+k)
	}
	return out
}

// ArrowOf returns the arrow type between two types.
func ArrowOf(decls []Decl, from int, to int) int {
	if !ValidTypes(decls) {
		return -1
	}
	return arrowBetween(decls, from, to)
}

// arrowBetween returns the first arrow type between two types, for declarations that need not be valid.
func arrowBetween(decls []Decl, from int, to int) int {
	for k, d := range decls {
		if len(d.Cons) == 0 && d.From == from && d.To == to {
			return k + 1
		}
	}
	return -1
}

// Inhabited returns the types that may have values.
func Inhabited(decls []Decl) []int {
	if !ValidTypes(decls) {
		return nil
	}
	found := []int{0}
	// Each round but the last one finds a type more, so there are at most as many rounds as types.
	for round := 0; round < len(decls); round++ {
		found = inhabitedFrom(decls, found)
	}
	return found
}

// inhabitedFrom returns a set of types and all types that have values made of those of the set.
func inhabitedFrom(decls []Decl, found []int) []int {
	out := found
	for k, d := range decls {
		if len(d.Cons) == 0 || anyFilled(d.Cons, found) {
			out = withInt(out, k+1)
		}
	}
	return out
}

// anyFilled reports whether a constructor has fields of types in a set alone.
func anyFilled(cons []Con, found []int) bool {
	for _, c := range cons {
		if allIn(c.Fields, found) {
			return true
		}
	}
	return false
}

// copyInts returns a list of its own with the same numbers.
func copyInts(list []int) []int {
	var out []int
	for _, n := range list {
		out = append(out, n)
	}
	return out
}

// joinedInts returns a list with further numbers appended to it.
func joinedInts(list []int, further []int) []int {
	out := list
	for _, n := range further {
		out = append(out, n)
	}
	return out
}

// sameInts reports whether two lists have the same numbers in the same order.
func sameInts(a []int, b []int) bool {
	if len(a) != len(b) {
		return false
	}
	for i := range a {
		if a[i] != b[i] {
			return false
		}
	}
	return true
}

// hasInt reports whether a number is in a list.
func hasInt(list []int, n int) bool {
	for _, m := range list {
		if m == n {
			return true
		}
	}
	return false
}

// allIn reports whether all numbers of a list are in another one.
func allIn(list []int, other []int) bool {
	for _, n := range list {
		if !hasInt(other, n) {
			return false
		}
	}
	return true
}

// withInt returns an ascending list of its own with a number in it that may be there before.
func withInt(list []int, n int) []int {
	var out []int
	placed := false
	for _, m := range list {
		if m >= n && !placed {
			out = append(out, n)
			placed = true
		}
		if m != n {
			out = append(out, m)
		}
	}
	if !placed {
		out = append(out, n)
	}
	return out
}
