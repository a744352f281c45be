package tests

import (
	"fmt"
	"strconv"
	"strings"
	"testing"

	"loop.example/refcountml/impl"
)

// words returns the words for operations, in the order of these; "" for those that have none.
func words() []string {
	return []string{"", "add", "sub", "mul", "less", "print", "con", "if", "match", "call", "close", "apply", "", "let"}
}

// wordNumbered reports whether the word for an operation has a number after it.
func wordNumbered(op int) bool {
	return op == impl.OpCon || op == impl.OpMatch || op == impl.OpCall || op == impl.OpClose
}

// shown returns the text of an expression with an end whose operations there are.
func shown(e impl.Expr) string {
	switch {
	case e.Op == impl.OpInt:
		return fmt.Sprint(e.Num)
	case e.Op == impl.OpVar:
		return fmt.Sprint("v", e.Num)
	}
	parts := []string{words()[e.Op]}
	if wordNumbered(e.Op) {
		parts[0] += fmt.Sprint(e.Num)
	}
	for _, kid := range e.Kids {
		parts = append(parts, shown(kid))
	}
	return "(" + strings.Join(parts, " ") + ")"
}

// mayShow reports whether an expression with an end should have a text.
func mayShow(e impl.Expr) bool {
	if nodesOf(e) > 30 || e.Op < impl.OpInt || e.Op > impl.OpLet {
		return false
	}
	leaf := e.Op == impl.OpInt || e.Op == impl.OpVar
	low, high := 0, 0
	switch {
	case e.Op == impl.OpInt:
		low, high = -999, 999
	case e.Op == impl.OpVar || wordNumbered(e.Op):
		high = 99
	}
	for _, kid := range e.Kids {
		if leaf || !mayShow(kid) {
			return false
		}
	}
	return e.Num >= low && e.Num <= high
}

// parsed returns the expression of a text that a test has, and panics if it is wrong.
func parsed(s string) impl.Expr {
	tokens := strings.Fields(strings.ReplaceAll(strings.ReplaceAll(s, "(", " ( "), ")", " ) "))
	e, rest := parsedFrom(tokens)
	if len(rest) > 0 {
		panic("more than one expression: " + s)
	}
	return e
}

// parsedFrom returns the first expression of some tokens, and the rest of these.
func parsedFrom(tokens []string) (impl.Expr, []string) {
	if tokens[0] != "(" {
		return leafOf(tokens[0]), tokens[1:]
	}
	out := nodeOf(tokens[1])
	rest := tokens[2:]
	for rest[0] != ")" {
		var kid impl.Expr
		kid, rest = parsedFrom(rest)
		out.Kids = append(out.Kids, kid)
	}
	return out, rest[1:]
}

// leafOf returns the constant or the variable of a token.
func leafOf(token string) impl.Expr {
	if strings.HasPrefix(token, "v") {
		return v(numberOf(token[1:]))
	}
	return num(numberOf(token))
}

// nodeOf returns the node of a word with its number, as yet without kids.
func nodeOf(token string) impl.Expr {
	word := strings.TrimRight(token, "0123456789")
	for op, other := range words() {
		if word != other || word == "" {
			continue
		}
		if wordNumbered(op) {
			return ex(op, numberOf(token[len(word):]))
		}
		return ex(op, 0)
	}
	panic("no operation: " + token)
}

// numberOf returns the number of a text.
func numberOf(s string) int {
	n, err := strconv.Atoi(s)
	if err != nil {
		panic(err)
	}
	return n
}

// The texts with which other tests are written must be read as they are meant.
func TestTextsOfTestsAreReadBack(t *testing.T) {
	e := let(num(-5), ex(impl.OpMatch, 3, ex(impl.OpCon, 12, v(0), ex(impl.OpClose, 2)), ex(impl.OpCall, 0), ex(impl.OpIf, 0, v(10), v(1), ex(impl.OpPrint, 0, num(7)))))
	s := "(let -5 (match3 (con12 v0 (close2)) (call0) (if v10 v1 (print 7))))"
	if shown(e) != s || text(parsed(s)) != text(e) {
		t.Errorf("the text is %s, and what is read is %s", shown(e), shown(parsed(s)))
	}
	for _, r := range samples() {
		if text(parsed(shown(r.e))) != text(r.e) {
			t.Fatalf("%s is read as %s", shown(r.e), shown(parsed(shown(r.e))))
		}
	}
}

// readMeaning returns the expression of which some text is the text, and true; false if there is none.
// It reads loosely and then compares texts; what cannot be read is found by what it panics with.
func readMeaning(s string) (e impl.Expr, ok bool) {
	defer func() {
		if recover() != nil {
			e, ok = impl.Expr{}, false
		}
	}()
	if strings.Count(s, "(")+strings.Count(s, " ") > 100 {
		return impl.Expr{}, false
	}
	if e = parsed(s); !mayShow(e) || shown(e) != s {
		return impl.Expr{}, false
	}
	return e, true
}

// shownNumbers returns the text of a list of numbers.
func shownNumbers(list []int) string {
	return "(" + strings.Trim(strings.ReplaceAll(fmt.Sprint(list), " ", ","), "[]") + ")"
}

// shownProgram returns the text of a valid program.
func shownProgram(p impl.Program) string {
	var out strings.Builder
	for _, d := range p.Decls {
		if len(d.Cons) == 0 {
			fmt.Fprintf(&out, "arrow %d %d", d.From, d.To)
		} else {
			out.WriteString("data")
		}
		for _, c := range d.Cons {
			out.WriteString(" " + shownNumbers(c.Fields))
		}
		out.WriteString("\n")
	}
	for _, f := range p.Funcs {
		fmt.Fprintf(&out, "fun %s %d %s\n", shownNumbers(f.Params), f.Result, shown(f.Body))
	}
	return out.String()
}

// numbersIn returns the numbers of the text of a list.
func numbersIn(s string) []int {
	var out []int
	for _, word := range strings.FieldsFunc(strings.Trim(s, "()"), func(r rune) bool { return r == ',' }) {
		out = append(out, numberOf(word))
	}
	return out
}

// programMeaning returns the valid program of which some text is the text, and true; false if there is none.
func programMeaning(s string) (p impl.Program, ok bool) {
	defer func() {
		if recover() != nil {
			p, ok = impl.Program{}, false
		}
	}()
	for _, l := range strings.Split(strings.TrimSuffix(s, "\n"), "\n") {
		words := strings.Split(l, " ")
		switch words[0] {
		case "data":
			var d impl.Decl
			for _, word := range words[1:] {
				d.Cons = append(d.Cons, impl.Con{Fields: numbersIn(word)})
			}
			p.Decls = append(p.Decls, d)
		case "arrow":
			p.Decls = append(p.Decls, arrow(numberOf(words[1]), numberOf(words[2])))
		default:
			p.Funcs = append(p.Funcs, impl.Func{Params: numbersIn(words[1]), Result: numberOf(words[2]), Body: parsed(strings.Join(words[3:], " "))})
		}
	}
	if !impl.ValidProgram(p) || shownProgram(p) != s {
		return impl.Program{}, false
	}
	return p, true
}

// spoiltText returns a text with a change, which may leave it well formed.
func (m *maker) spoiltText(s string) string {
	bytes := "() -,\nv0123456789adfunlewcompi\x00\xff"
	at := m.pick(len(s) + 1)
	one := string(bytes[m.pick(len(bytes))])
	switch m.pick(7) {
	case 0:
		return s[:at] + one + s[at:]
	case 1:
		return s[:at]
	case 2:
		return s[at:]
	case 3:
		if at < len(s) {
			return s[:at] + s[at+1:]
		}
	case 4:
		if at < len(s) {
			return s[:at] + one + s[at+1:]
		}
	case 5:
		// A digit for a digit leaves the form as it is.
		for i := at; i < len(s); i++ {
			if s[i] >= '0' && s[i] <= '9' {
				return s[:i] + string(bytes[8+m.pick(10)]) + s[i+1:]
			}
		}
	case 6:
		to := at + m.pick(min(9, len(s)-at+1))
		return s[:to] + s[at:]
	}
	return s + one
}
