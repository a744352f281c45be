package impl

// MaxVars is the largest number of a variable, and of variables more, in Shift.
const MaxVars = 99

// FreeOf returns the free variables of an expression.
func FreeOf(e Expr, n int) []int {
	if NodesOf(e) < 0 {
		return nil
	}
	return withFree(nil, e, n)
}

// withFree returns an ascending list with the variables from 0 to n-1 in it that an expression mentions.
func withFree(list []int, e Expr, n int) []int {
	out := list
	if e.Op == OpVar && e.Num >= 0 && e.Num < n {
		out = withInt(out, e.Num)
	}
	for _, kid := range e.Kids {
		out = withFree(out, kid, n)
	}
	return out
}

// MentionsOf returns how often an expression mentions a variable.
func MentionsOf(e Expr, v int) int {
	if NodesOf(e) < 0 {
		return -1
	}
	return nodesWith(e, OpVar, v)
}

// nodesWith returns how many nodes of an expression that is not too large have an operation and a number.
func nodesWith(e Expr, op int, num int) int {
	n := 0
	if e.Op == op && e.Num == num {
		n = 1
	}
	for _, kid := range e.Kids {
		n += nodesWith(kid, op, num)
	}
	return n
}

// Shift returns an expression with room for more variables.
func Shift(e Expr, at int, by int) (Expr, bool) {
	if NodesOf(e) < 0 || !inVars(at) || !inVars(by) || !varsInVars(e) {
		return Expr{}, false
	}
	return shifted(e, at, by), true
}

// inVars reports whether a number is in 0..MaxVars.
func inVars(n int) bool {
	return n >= 0 && n <= MaxVars
}

// varsInVars reports whether all variables that an expression mentions are in 0..MaxVars.
func varsInVars(e Expr) bool {
	if e.Op == OpVar && !inVars(e.Num) {
		return false
	}
	for _, kid := range e.Kids {
		if !varsInVars(kid) {
			return false
		}
	}
	return true
}

// shifted returns an expression of its own with room for by variables more from at on.
func shifted(e Expr, at int, by int) Expr {
	out := Expr{Op: e.Op, Num: e.Num}
	if e.Op == OpVar && e.Num >= at {
		out.Num = e.Num + by
	}
	for _, kid := range e.Kids {
		out.Kids = append(out.Kids, shifted(kid, at, by))
	}
	return out
}

// boundIn returns how many variables a node of a valid program binds in one of its kids.
func boundIn(decls []Decl, e Expr, k int) int {
	switch {
	case e.Op == OpLet && k == 1:
		return 1
	case e.Op == OpMatch && k > 0:
		return len(decls[e.Num-1].Cons[k-1].Fields)
	}
	return 0
}

// UnusedParams returns the parameters that a function does not mention.
func UnusedParams(p Program, f int) []int {
	if !ValidProgram(p) || !hasFunc(p, f) {
		return nil
	}
	var out []int
	for v := range p.Funcs[f].Params {
		if nodesWith(p.Funcs[f].Body, OpVar, v) == 0 {
			out = append(out, v)
		}
	}
	return out
}
