// Package tests checks what the specification says of package impl.
package tests

import (
	"fmt"

	"loop.example/refcountml/impl"
)

// text returns a value as text: equal values have equal texts, and a nil list has that of an empty one.
func text(x any) string {
	return fmt.Sprintf("%+v", x)
}

// same reports whether a list has exactly some numbers.
func same(list []int, numbers ...int) bool {
	return text(list) == text(numbers)
}

// has reports whether a list has a number.
func has(list []int, n int) bool {
	for _, m := range list {
		if m == n {
			return true
		}
	}
	return false
}

// partOf reports whether a list has no number that another one does not have.
func partOf(list []int, other []int) bool {
	for _, n := range list {
		if !has(other, n) {
			return false
		}
	}
	return true
}

// ascends reports whether each number of a list is greater than the one before.
func ascends(list []int) bool {
	for i := 1; i < len(list); i++ {
		if list[i] <= list[i-1] {
			return false
		}
	}
	return true
}

// num returns an integer constant.
func num(n int) impl.Expr {
	return impl.Expr{Op: impl.OpInt, Num: n}
}

// v returns a variable.
func v(n int) impl.Expr {
	return impl.Expr{Op: impl.OpVar, Num: n}
}

// ex returns an expression with kids.
func ex(op int, n int, kids ...impl.Expr) impl.Expr {
	return impl.Expr{Op: op, Num: n, Kids: kids}
}

// add returns a sum.
func add(a impl.Expr, b impl.Expr) impl.Expr {
	return ex(impl.OpAdd, 0, a, b)
}

// let returns an expression that binds a variable.
func let(a impl.Expr, b impl.Expr) impl.Expr {
	return ex(impl.OpLet, 0, a, b)
}

// deep returns an expression of some nodes, each with one kid.
func deep(nodes int) impl.Expr {
	out := num(1)
	for n := 1; n < nodes; n++ {
		out = ex(impl.OpPrint, 0, out)
	}
	return out
}

// wide returns an expression of some nodes, all of them kids of the first one.
func wide(nodes int) impl.Expr {
	out := ex(impl.OpCon, 0)
	for n := 1; n < nodes; n++ {
		out.Kids = append(out.Kids, v(0))
	}
	return out
}

// doubled returns an expression that has two to the power of depth leaves, all in the same memory.
func doubled(depth int) impl.Expr {
	out := v(0)
	for n := 0; n < depth; n++ {
		out = add(out, out)
	}
	return out
}

// endless returns an expression that is a kid of itself.
func endless() impl.Expr {
	out := ex(impl.OpPrint, 0, num(1))
	out.Kids[0] = out
	return out
}

// list returns a list of integers, for the constructors 0 and 1.
func list(numbers ...int) impl.Expr {
	out := ex(impl.OpCon, 0)
	for i := len(numbers) - 1; i >= 0; i-- {
		out = ex(impl.OpCon, 1, num(numbers[i]), out)
	}
	return out
}

// data declares a data type without fields.
func data() impl.Decl {
	return impl.Decl{Cons: []impl.Con{{}}}
}

// dataOf declares a data type with a constructor for each list of fields.
func dataOf(fields ...[]int) impl.Decl {
	var d impl.Decl
	for _, f := range fields {
		d.Cons = append(d.Cons, impl.Con{Fields: f})
	}
	return d
}

// arrow declares an arrow type.
func arrow(from int, to int) impl.Decl {
	return impl.Decl{From: from, To: to}
}

// withDecl returns declarations with one more, in memory of their own.
func withDecl(decls []impl.Decl, d impl.Decl) []impl.Decl {
	var out []impl.Decl
	for _, old := range decls {
		out = append(out, old)
	}
	return append(out, d)
}

// lists declares lists of integers.
func lists() []impl.Decl {
	return []impl.Decl{dataOf(nil, []int{0, 1})}
}

// sumBody adds up the list that is the first variable, by calling the function f.
func sumBody(f int) impl.Expr {
	return ex(impl.OpMatch, 1, v(0), num(0), add(v(1), ex(impl.OpCall, f, v(2))))
}

// sumProgram adds up 5 and 7.
func sumProgram() impl.Program {
	return impl.Program{Decls: lists(), Funcs: []impl.Func{
		{Body: ex(impl.OpCall, 1, list(5, 7))},
		{Params: []int{1}, Body: sumBody(1)},
	}}
}

// mapProgram adds 10 to each number of a list by a closure, and adds these up.
func mapProgram() impl.Program {
	again := ex(impl.OpCon, 1, ex(impl.OpApply, 0, v(0), v(2)), ex(impl.OpCall, 2, v(0), v(3)))
	return impl.Program{Decls: append(lists(), arrow(0, 0)), Funcs: []impl.Func{
		{Body: ex(impl.OpCall, 1, ex(impl.OpCall, 2, ex(impl.OpClose, 3, num(10)), list(1, 2)))},
		{Params: []int{1}, Body: sumBody(1)},
		{Params: []int{2, 1}, Result: 1, Body: ex(impl.OpMatch, 1, v(1), list(), again)},
		{Params: []int{0, 0}, Body: add(v(0), v(1))},
	}}
}

// chainProgram has the functions 0, 3, 1 and 2, of which each names the next one, and the last one itself by a closure.
func chainProgram() impl.Program {
	return impl.Program{Decls: []impl.Decl{arrow(0, 0)}, Funcs: []impl.Func{
		{Body: ex(impl.OpCall, 3, num(1))},
		{Params: []int{0}, Body: ex(impl.OpCall, 2, v(0))},
		{Params: []int{0}, Body: ex(impl.OpApply, 0, ex(impl.OpClose, 2), v(0))},
		{Params: []int{0}, Body: ex(impl.OpCall, 1, v(0))},
	}}
}

// tieProgram has two functions that call each other, and one that nothing calls.
func tieProgram() impl.Program {
	return impl.Program{Funcs: []impl.Func{
		{Body: num(0)},
		{Params: []int{0}, Body: ex(impl.OpIf, 0, v(0), ex(impl.OpCall, 2, v(0)), num(1))},
		{Params: []int{0}, Body: ex(impl.OpIf, 0, v(0), ex(impl.OpCall, 1, v(0)), num(0))},
		{Params: []int{0}, Body: ex(impl.OpCall, 1, ex(impl.OpCall, 1, v(0)))},
	}}
}

// emptyProgram has a data type without values, and a function that can never be called.
func emptyProgram() impl.Program {
	return impl.Program{Decls: []impl.Decl{dataOf([]int{1})}, Funcs: []impl.Func{
		{Body: num(-3)},
		{Params: []int{1}, Body: ex(impl.OpMatch, 1, v(0), ex(impl.OpCall, 1, v(1)))},
	}}
}

// ruleProgram has signatures that each rule of TypeOf can be tried with.
func ruleProgram() impl.Program {
	return impl.Program{
		Decls: []impl.Decl{dataOf(nil, []int{0, 1}), arrow(0, 0), arrow(1, 0), dataOf(nil, []int{0, 1, 2}, []int{4})},
		Funcs: []impl.Func{
			{Body: num(0)},
			{Params: []int{1}, Body: num(0)},
			{Params: []int{2, 1}, Result: 1, Body: v(1)},
			{Params: []int{0, 1, 0}, Body: v(0)},
		},
	}
}
