package tests

import (
	"fmt"
	"strconv"
	"strings"
	"testing"

	"loop.example/refcountml/impl"
)

// words returns the words for operations, in the order of these; "" for those that have none.
func words() []string {
	return []string{"", "add", "sub", "mul", "less", "print", "con", "if", "match", "call", "close", "apply", "", "let"}
}

// wordNumbered reports whether the word for an operation has a number after it.
func wordNumbered(op int) bool {
	return op == impl.OpCon || op == impl.OpMatch || op == impl.OpCall || op == impl.OpClose
}

// shown returns the text of an expression with an end whose operations there are.
func shown(e impl.Expr) string {
	switch {
	case e.Op == impl.OpInt:
		return fmt.Sprint(e.Num)
	case e.Op == impl.OpVar:
		return fmt.Sprint("v", e.Num)
	}
	parts := []string{words()[e.Op]}
	if wordNumbered(e.Op) {
		parts[0] += fmt.Sprint(e.Num)
	}
	for _, kid := range e.Kids {
		parts = append(parts, shown(kid))
	}
	return "(" + strings.Join(parts, " ") + ")"
}

// mayShow reports whether an expression with an end should have a text.
func mayShow(e impl.Expr) bool {
	if nodesOf(e) > 30 || e.Op < impl.OpInt || e.Op > impl.OpLet {
		return false
	}
	leaf := e.Op == impl.OpInt || e.Op == impl.OpVar
	low, high := 0, 0
	switch {
	case e.Op == impl.OpInt:
		low, high = -999, 999
	case e.Op == impl.OpVar || wordNumbered(e.Op):
		high = 99
	}
	for _, kid := range e.Kids {
		if leaf || !mayShow(kid) {
			return false
		}
	}
	return e.Num >= low && e.Num <= high
}

// parsed returns the expression of a text that a test has, and panics if it is wrong.
func parsed(s string) impl.Expr {
	tokens := strings.Fields(strings.ReplaceAll(strings.ReplaceAll(s, "(", " ( "), ")", " ) "))
	e, rest := parsedFrom(tokens)
	if len(rest) > 0 {
		panic("more than one expression: " + s)
	}
	return e
}

// parsedFrom returns the first expression of some tokens, and the rest of these.
func parsedFrom(tokens []string) (impl.Expr, []string) {
	if tokens[0] != "(" {
		return leafOf(tokens[0]), tokens[1:]
	}
	out := nodeOf(tokens[1])
	rest := tokens[2:]
	for rest[0] != ")" {
		var kid impl.Expr
		kid, rest = parsedFrom(rest)
		out.Kids = append(out.Kids, kid)
	}
	return out, rest[1:]
}

// leafOf returns the constant or the variable of a token.
func leafOf(token string) impl.Expr {
	if strings.HasPrefix(token, "v") {
		return v(numberOf(token[1:]))
	}
	return num(numberOf(token))
}

// nodeOf returns the node of a word with its number, as yet without kids.
func nodeOf(token string) impl.Expr {
	word := strings.TrimRight(token, "0123456789")
	for op, other := range words() {
		if word != other || word == "" {
			continue
		}
		if wordNumbered(op) {
			return ex(op, numberOf(token[len(word):]))
		}
		return ex(op, 0)
	}
	panic("no operation: " + token)
}

// numberOf returns the number of a text.
func numberOf(s string) int {
	n, err := strconv.Atoi(s)
	if err != nil {
		panic(err)
	}
	return n
}

// The texts with which other tests are written must be read as they are meant.
func TestTextsOfTestsAreReadBack(t *testing.T) {
	e := let(num(-5), ex(impl.OpMatch, 3, ex(impl.OpCon, 12, v(0), ex(impl.OpClose, 2)), ex(impl.OpCall, 0), ex(impl.OpIf, 0, v(10), v(1), ex(impl.OpPrint, 0, num(7)))))
	s := "(let -5 (match3 (con12 v0 (close2)) (call0) (if v10 v1 (print 7))))"
	if shown(e) != s || text(parsed(s)) != text(e) {
		t.Errorf("the text is %s, and what is read is %s", shown(e), shown(parsed(s)))
	}
	for _, r := range samples() {
		if text(parsed(shown(r.e))) != text(r.e) {
			t.Fatalf("%s is read as %s", shown(r.e), shown(parsed(shown(r.e))))
		}
	}
}
