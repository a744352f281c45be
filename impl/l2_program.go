package impl

// MaxFuncs is the largest number of functions.
const MaxFuncs = 4

// MaxParams is the largest number of parameters of a function.
const MaxParams = 3

// MaxNodes is the largest number of nodes of an expression.
const MaxNodes = 30

// MaxInt is the largest absolute value of an integer.
const MaxInt = 999

// OpInt is an integer constant.
const OpInt = 0

// OpAdd adds two integers.
const OpAdd = 1

// OpSub subtracts the second integer from the first one.
const OpSub = 2

// OpMul multiplies two integers.
const OpMul = 3

// OpLess compares two integers.
const OpLess = 4

// OpPrint prints an integer.
const OpPrint = 5

// OpCon constructs a value of a data type.
const OpCon = 6

// OpIf chooses by an integer.
const OpIf = 7

// OpMatch chooses by a constructor.
const OpMatch = 8

// OpCall calls a function.
const OpCall = 9

// OpClose makes a closure of a function.
const OpClose = 10

// OpApply calls a closure.
const OpApply = 11

// OpVar is a variable.
const OpVar = 12

// OpLet binds a variable.
const OpLet = 13

// Expr is an expression.
type Expr struct {
	Op   int
	Num  int
	Kids []Expr
}

// Func is a function: the types of its parameters, that of its result, and its body.
type Func struct {
	Params []int
	Result int
	Body   Expr
}

// Program is a program.
type Program struct {
	Decls []Decl
	Funcs []Func
}

// NodesOf returns the number of nodes of an expression.
func NodesOf(e Expr) int {
	n := nodesUpTo(e, MaxNodes)
	if n > MaxNodes {
		return -1
	}
	return n
}

// nodesUpTo returns the number of nodes of an expression, or any greater number than limit if there are more.
// It visits at most limit+1 nodes, so it ends also for an expression that contains itself.
func nodesUpTo(e Expr, limit int) int {
	n := 1
	for _, kid := range e.Kids {
		if n > limit {
			return n
		}
		n += nodesUpTo(kid, limit-n)
	}
	return n
}

// ValidSigs reports whether signatures are valid.
func ValidSigs(p Program) bool {
	if !ValidTypes(p.Decls) || len(p.Funcs) < 1 || len(p.Funcs) > MaxFuncs {
		return false
	}
	for _, f := range p.Funcs {
		if !validSig(p.Decls, f.Params, f.Result) {
			return false
		}
	}
	return len(p.Funcs[0].Params) == 0 && p.Funcs[0].Result == 0
}

// validSig reports whether the signature of one function is valid.
func validSig(decls []Decl, params []int, result int) bool {
	return len(params) <= MaxParams && areTypes(decls, params) && isType(decls, result)
}

// scope has the types of variables: those that are given, and after them those that are bound.
// They are kept apart, so that no list of given types is copied at each binding.
type scope struct {
	given []int
	bound []int
}

// bind returns a scope with further variables.
func bind(s scope, types []int) scope {
	bound := copyInts(s.bound)
	for _, t := range types {
		bound = append(bound, t)
	}
	return scope{given: s.given, bound: bound}
}

// typeOfVar returns the type of a variable; -1 if there is none.
func typeOfVar(s scope, v int) int {
	if v < 0 {
		return -1
	}
	if v < len(s.given) {
		return s.given[v]
	}
	if v-len(s.given) < len(s.bound) {
		return s.bound[v-len(s.given)]
	}
	return -1
}

// TypeOf returns the type of an expression.
func TypeOf(p Program, vars []int, e Expr) int {
	if !ValidSigs(p) || !areTypes(p.Decls, vars) || NodesOf(e) < 0 {
		return -1
	}
	return typeIn(p, scope{given: vars}, e)
}

// typeIn returns the type of an expression that is not too large in a scope; -1 if it has none.
func typeIn(p Program, s scope, e Expr) int {
	switch e.Op {
	case OpVar:
		if len(e.Kids) > 0 {
			return -1
		}
		return typeOfVar(s, e.Num)
	case OpLet:
		return typeOfLet(p, s, e)
	case OpIf:
		return typeOfIf(p, s, e)
	case OpMatch:
		return typeOfMatch(p, s, e)
	}
	return resultOf(p, e.Op, e.Num, typesIn(p, s, e.Kids))
}

// typesIn returns the types of expressions in a scope.
func typesIn(p Program, s scope, list []Expr) []int {
	var out []int
	for _, e := range list {
		out = append(out, typeIn(p, s, e))
	}
	return out
}

// typeOfLet returns the type of an OpLet expression; -1 if it has none.
func typeOfLet(p Program, s scope, e Expr) int {
	if e.Num != 0 || len(e.Kids) != 2 {
		return -1
	}
	t := typeIn(p, s, e.Kids[0])
	if t < 0 {
		return -1
	}
	return typeIn(p, bind(s, []int{t}), e.Kids[1])
}

// typeOfIf returns the type of an OpIf expression; -1 if it has none.
func typeOfIf(p Program, s scope, e Expr) int {
	if e.Num != 0 || len(e.Kids) != 3 {
		return -1
	}
	t := typeIn(p, s, e.Kids[1])
	if typeIn(p, s, e.Kids[0]) != 0 || typeIn(p, s, e.Kids[2]) != t {
		return -1
	}
	return t
}

// typeOfMatch returns the type of an OpMatch expression; -1 if it has none.
func typeOfMatch(p Program, s scope, e Expr) int {
	if !isData(p.Decls, e.Num) {
		return -1
	}
	cons := p.Decls[e.Num-1].Cons
	if len(e.Kids) != 1+len(cons) || typeIn(p, s, e.Kids[0]) != e.Num {
		return -1
	}
	t := typeIn(p, bind(s, cons[0].Fields), e.Kids[1])
	for k := 1; k < len(cons); k++ {
		if typeIn(p, bind(s, cons[k].Fields), e.Kids[1+k]) != t {
			return -1
		}
	}
	return t
}

// resultOf returns the type of what an operation gives for values of some types; -1 if it gives nothing for them.
func resultOf(p Program, op int, num int, types []int) int {
	switch op {
	case OpInt:
		return typeWhen(num >= -MaxInt && num <= MaxInt && len(types) == 0, 0)
	case OpAdd, OpSub, OpMul, OpLess:
		return typeWhen(num == 0 && sameInts(types, []int{0, 0}), 0)
	case OpPrint:
		return typeWhen(num == 0 && sameInts(types, []int{0}), 0)
	case OpCon:
		return resultOfCon(p.Decls, num, types)
	case OpCall:
		return resultOfCall(p, num, types)
	case OpClose:
		return resultOfClose(p, num, types)
	case OpApply:
		if num != 0 {
			return -1
		}
		return resultOfApply(p.Decls, types)
	}
	return -1
}

// typeWhen returns the type t when something holds, and -1 otherwise.
func typeWhen(holds bool, t int) int {
	if holds {
		return t
	}
	return -1
}

// resultOfCon returns the type that a constructor makes of values of some types; -1 if it makes nothing of them.
func resultOfCon(decls []Decl, c int, types []int) int {
	t := typeOfCon(decls, c)
	if t < 0 {
		return -1
	}
	return typeWhen(sameInts(types, fieldsOfCon(decls, c)), t)
}

// hasFunc reports whether a number is a function.
func hasFunc(p Program, f int) bool {
	return f >= 0 && f < len(p.Funcs)
}

// resultOfCall returns what a function returns for values of some types; -1 if it does not take them.
func resultOfCall(p Program, f int, types []int) int {
	if !hasFunc(p, f) {
		return -1
	}
	return typeWhen(sameInts(types, p.Funcs[f].Params), p.Funcs[f].Result)
}

// resultOfClose returns the arrow type of a closure of a function with values of some types; -1 if there is none.
func resultOfClose(p Program, f int, types []int) int {
	if !hasFunc(p, f) || len(p.Funcs[f].Params) == 0 {
		return -1
	}
	params := p.Funcs[f].Params
	last := len(params) - 1
	return typeWhen(sameInts(types, params[:last]), arrowBetween(p.Decls, params[last], p.Funcs[f].Result))
}

// resultOfApply returns what a closure returns, the types being its own and that of its argument; -1 if they do not fit.
func resultOfApply(decls []Decl, types []int) int {
	if len(types) != 2 || !isArrow(decls, types[0]) {
		return -1
	}
	d := decls[types[0]-1]
	return typeWhen(types[1] == d.From, d.To)
}

// ValidProgram reports whether a program is valid.
func ValidProgram(p Program) bool {
	if !ValidSigs(p) {
		return false
	}
	for _, f := range p.Funcs {
		if TypeOf(p, f.Params, f.Body) != f.Result {
			return false
		}
	}
	return true
}

// CalleesOf returns the functions that a function names.
func CalleesOf(p Program, f int) []int {
	if !ValidProgram(p) || !hasFunc(p, f) {
		return nil
	}
	return withNamed(nil, p.Funcs[f].Body)
}

// withNamed returns an ascending list with the functions in it that an expression names.
func withNamed(list []int, e Expr) []int {
	out := list
	if e.Op == OpCall || e.Op == OpClose {
		out = withInt(out, e.Num)
	}
	for _, kid := range e.Kids {
		out = withNamed(out, kid)
	}
	return out
}

// ReachedFrom returns the functions that are reached from one.
func ReachedFrom(p Program, f int) []int {
	if !ValidProgram(p) || !hasFunc(p, f) {
		return nil
	}
	reached := []int{f}
	// Each round but the last one finds a function more, so there are at most as many rounds as functions.
	for round := 0; round < len(p.Funcs); round++ {
		reached = withCallees(p, reached)
	}
	return reached
}

// withCallees returns a set of functions and all functions that these name.
func withCallees(p Program, list []int) []int {
	out := list
	for _, f := range list {
		out = withNamed(out, p.Funcs[f].Body)
	}
	return out
}
