package tests

import (
	"strings"
	"testing"

	"loop.example/refcountml/impl"
)

func TestFormatExprOfTheRules(t *testing.T) {
	one, two := num(1), v(2)
	for _, c := range []struct {
		e    impl.Expr
		want string
	}{
		{num(0), "0"}, {num(7), "7"}, {num(10), "10"}, {num(100), "100"}, {num(907), "907"}, {num(999), "999"},
		{num(-1), "-1"}, {num(-10), "-10"}, {num(-90), "-90"}, {num(-305), "-305"}, {num(-999), "-999"},
		{v(0), "v0"}, {v(9), "v9"}, {v(10), "v10"}, {v(99), "v99"},
		{add(one, two), "(add 1 v2)"}, {ex(impl.OpSub, 0, one, two), "(sub 1 v2)"}, {ex(impl.OpMul, 0, one, two), "(mul 1 v2)"},
		{ex(impl.OpLess, 0, one, two), "(less 1 v2)"}, {ex(impl.OpPrint, 0, one), "(print 1)"},
		{ex(impl.OpCon, 0), "(con0)"}, {ex(impl.OpCon, 99, one, two), "(con99 1 v2)"},
		{ex(impl.OpIf, 0, one, two, num(-3)), "(if 1 v2 -3)"}, {ex(impl.OpMatch, 4, two, one, two), "(match4 v2 1 v2)"},
		{ex(impl.OpCall, 3), "(call3)"}, {ex(impl.OpCall, 10, two), "(call10 v2)"}, {ex(impl.OpClose, 0), "(close0)"}, {ex(impl.OpClose, 12, one), "(close12 1)"},
		{ex(impl.OpApply, 0, two, one), "(apply v2 1)"}, {let(one, two), "(let 1 v2)"}, {list(5, -7), "(con1 5 (con1 -7 (con0)))"},
		// How many kids there should be does not matter, nor does any type.
		{ex(impl.OpAdd, 0), "(add)"}, {ex(impl.OpPrint, 0, one, two, one, two), "(print 1 v2 1 v2)"}, {ex(impl.OpLet, 0), "(let)"}, {ex(impl.OpIf, 0, list()), "(if (con0))"},
		{ex(impl.OpMatch, 0), "(match0)"}, {ex(impl.OpApply, 0, ex(impl.OpApply, 0)), "(apply (apply))"},
		{impl.Expr{Op: impl.OpAdd, Kids: []impl.Expr{}}, "(add)"}, {impl.Expr{Kids: []impl.Expr{}}, "0"},
	} {
		if got := impl.FormatExpr(c.e); got != c.want {
			t.Errorf("FormatExpr(%v) = %q, want %q", c.e, got, c.want)
		}
	}
}

func TestFormatExprOfTheExample(t *testing.T) {
	p := sumProgram()
	if a, b := impl.FormatExpr(p.Funcs[0].Body), impl.FormatExpr(p.Funcs[1].Body); a != "(call1 (con1 5 (con1 7 (con0))))" || b != "(match1 v0 0 (add v1 (call1 v2)))" {
		t.Errorf("FormatExpr = %q and %q", a, b)
	}
}

// hasNoText tells if an expression has a text, also where it is a kid.
func hasNoText(t *testing.T, what string, e impl.Expr) {
	t.Helper()
	for _, whole := range []impl.Expr{e, ex(impl.OpPrint, 0, e), let(num(1), add(v(0), e)), ex(impl.OpCon, 3, e, num(1))} {
		if s := impl.FormatExpr(whole); s != "" {
			t.Errorf("FormatExpr of %s = %.200q", what, s)
		}
	}
}

func TestFormatExprOfInvalidExpressions(t *testing.T) {
	for _, n := range []int{-1 << 63, -1000, 1000, 1<<63 - 1} {
		hasNoText(t, "a constant that is too large", num(n))
	}
	for op := impl.OpInt; op <= impl.OpLet; op++ {
		for _, n := range []int{-1 << 63, -100, -1, 1, 99, 100, 1<<63 - 1} {
			if numbers := op == impl.OpVar || wordNumbered(op); op != impl.OpInt && (!numbers || n < 0 || n > 99) {
				hasNoText(t, "a number that is not there", ex(op, n))
			} else if n > 0 && n < 100 && impl.FormatExpr(ex(op, n)) == "" {
				t.Errorf("FormatExpr of the operation %d with the number %d is empty", op, n)
			}
		}
	}
	for _, op := range []int{-1 << 63, -1, impl.OpDup, impl.OpDrop, impl.OpOpen, impl.OpReuse, impl.OpMove, impl.OpTail, 100, 1<<63 - 1} {
		hasNoText(t, "another operation", ex(op, 0))
		hasNoText(t, "another operation", ex(op, 0, num(1)))
	}
	hasNoText(t, "a constant with kids", ex(impl.OpInt, 1, num(1)))
	hasNoText(t, "a variable with kids", ex(impl.OpVar, 1, num(1)))
}

func TestFormatExprAtTheLimit(t *testing.T) {
	if s := impl.FormatExpr(deep(30)); s != strings.Repeat("(print ", 29)+"1"+strings.Repeat(")", 29) {
		t.Errorf("FormatExpr of 30 nodes = %q", s)
	}
	if s := impl.FormatExpr(wide(30)); s != "(con0"+strings.Repeat(" v0", 29)+")" {
		t.Errorf("FormatExpr of 30 nodes = %q", s)
	}
	for _, e := range []impl.Expr{deep(31), wide(31), deep(100000), wide(100000), doubled(5), doubled(62), endless()} {
		if s := impl.FormatExpr(e); s != "" {
			t.Errorf("FormatExpr of more than 30 nodes = %.200q", s)
		}
	}
}

func TestFormatExprAgreesWithTheSecondWay(t *testing.T) {
	shownOnes, none := 0, 0
	for _, e := range rawExprs() {
		want := ""
		if mayShow(e) {
			want = shown(e)
			shownOnes++
		} else {
			none++
		}
		if s := impl.FormatExpr(e); s != want {
			t.Fatalf("FormatExpr(%v) = %q, want %q", e, s, want)
		}
	}
	if shownOnes < 500 || none < 100 {
		t.Errorf("%d expressions have a text, and %d have none", shownOnes, none)
	}
}

func TestP222TextsAreMadeOfTexts(t *testing.T) {
	twice, tooLarge := 0, 0
	for _, e := range rawExprs() {
		s, both := impl.FormatExpr(e), impl.FormatExpr(add(e, e))
		switch {
		case nodesOf(e) > 14:
			tooLarge++
			if both != "" {
				t.Fatalf("FormatExpr of the sum of %v = %q", e, both)
			}
		case s == "":
			if both != "" {
				t.Fatalf("FormatExpr of the sum of %v, which has no text, = %q", e, both)
			}
		default:
			twice++
			if both != "(add "+s+" "+s+")" || strings.Count(both, s) < 2 {
				t.Fatalf("FormatExpr of the sum of %v = %q", e, both)
			}
		}
	}
	if twice < 300 || tooLarge < 100 {
		t.Errorf("%d sums have texts, and %d are too large", twice, tooLarge)
	}
}

// read returns the expression of a text.
func read(t *testing.T, s string) impl.Expr {
	t.Helper()
	e, ok := impl.ParseExpr(s)
	if !ok {
		t.Fatalf("ParseExpr(%q) fails", s)
	}
	return e
}

// failsToParse tells if ParseExpr finds an expression that it should not.
func failsToParse(t *testing.T, s string) {
	t.Helper()
	if e, ok := impl.ParseExpr(s); ok || text(e) != text(impl.Expr{}) {
		t.Errorf("ParseExpr(%.300q) = %v, %v", s, e, ok)
	}
}

func TestParseExprOfTheRules(t *testing.T) {
	one, two := num(1), v(2)
	for _, c := range []struct {
		s    string
		want impl.Expr
	}{
		{"0", num(0)}, {"7", num(7)}, {"10", num(10)}, {"907", num(907)}, {"999", num(999)}, {"-1", num(-1)}, {"-10", num(-10)}, {"-999", num(-999)}, {"v0", v(0)}, {"v9", v(9)}, {"v10", v(10)}, {"v99", v(99)},
		{"(add 1 v2)", add(one, two)}, {"(sub 1 v2)", ex(impl.OpSub, 0, one, two)}, {"(mul 1 v2)", ex(impl.OpMul, 0, one, two)}, {"(less 1 v2)", ex(impl.OpLess, 0, one, two)}, {"(print 1)", ex(impl.OpPrint, 0, one)},
		{"(con0)", ex(impl.OpCon, 0)}, {"(con99 1 v2)", ex(impl.OpCon, 99, one, two)}, {"(if 1 v2 -3)", ex(impl.OpIf, 0, one, two, num(-3))}, {"(match4 v2 1 v2)", ex(impl.OpMatch, 4, two, one, two)}, {"(call3)", ex(impl.OpCall, 3)}, {"(call10 v2)", ex(impl.OpCall, 10, two)},
		{"(close0)", ex(impl.OpClose, 0)}, {"(close12 1)", ex(impl.OpClose, 12, one)}, {"(apply v2 1)", ex(impl.OpApply, 0, two, one)}, {"(let 1 v2)", let(one, two)}, {"(con1 5 (con1 -7 (con0)))", list(5, -7)},
		// How many kids there should be does not matter, nor does any type.
		{"(add)", ex(impl.OpAdd, 0)}, {"(let)", ex(impl.OpLet, 0)}, {"(print 1 v2 1 v2)", ex(impl.OpPrint, 0, one, two, one, two)}, {"(apply (apply))", ex(impl.OpApply, 0, ex(impl.OpApply, 0))}, {"(if (con0) (if))", ex(impl.OpIf, 0, list(), ex(impl.OpIf, 0))},
	} {
		if got := read(t, c.s); text(got) != text(c.want) {
			t.Errorf("ParseExpr(%q) = %v, want %v", c.s, got, c.want)
		}
	}
}

func TestParseExprOfInvalidTexts(t *testing.T) {
	for _, s := range []string{
		"", " ", "\n", "\x00", "(", ")", "()", "( )", "(()", "((add 1 2))", "v", "-", "--1", "+1", "x", "1x", "v1x", "é",
		// Numbers with a zero or a sign too many, and beyond their limits.
		"-0", "00", "01", "-01", "007", "1000", "-1000", "9990", "0999", "12345678901234567890", "18446744073709551616", "-9223372036854775808", "v-1", "v-0", "v00", "v01", "v007", "v100", "v999", "v1000", "v18446744073709551617", "1e2", "0x1", "1_0", "٣",
		// Spaces too many or too few.
		" 1", "1 ", "v 1", "- 1", "( add 1 2)", "(add 1 2 )", "(add  1 2)", "(add 1  2)", "(add1 2)", "(add\t1 2)", "(add\n1 2)", "(add 1\n2)", "(add 1 2)\n", "\n1", " (add 1 2)", "(add 1 2) ", "(con 1)", "(con1 )", "(con 1 2)", "(con1(con0))", "(con1 1(con0))", "(add 1v2)", "(add (con0)(con0))", "(add 1,2)",
		// Parentheses too many or too few.
		"(add 1 2", "add 1 2)", "add 1 2", "(add 1 2))", "((add 1 2)", "(add (1) 2)", "(1)", "(v1)", "(add 1 (sub 2 3)", "(add 1 sub 2 3)", "(con0)(con0)", "[add 1 2]",
		// Words that there are not, and numbers after words that have none, or none after words that do.
		"(foo 1)", "(ad 1 2)", "(addd 1 2)", "(Add 1 2)", "(add0 1 2)", "(sub1)", "(mul2)", "(less0)", "(print0 1)", "(if0 1 2 3)", "(apply0 1 2)", "(let0 1 v0)", "(con)", "(con v0)", "(match v0)", "(call)", "(close)", "(con-1)", "(con-0)", "(con00)", "(con01)", "(con100)", "(match100 v0)", "(call1000)", "(close1x)", "(con v0 1)", "(int 1)", "(var 1)", "(v 1)", "(dup v0)", "(drop v0)", "(0)", "(con1v0)", "(lets)", "(call1.0)",
	} {
		failsToParse(t, s)
		failsToParse(t, "(print "+s+")")
		if _, ok := readMeaning(s); ok {
			t.Errorf("%q is the text of an expression in the second way", s)
		}
	}
	// Two texts are none, though they can be those of kids.
	failsToParse(t, "1 2")
	failsToParse(t, "(con0) (con0)")
}

func TestParseExprAtTheLimit(t *testing.T) {
	deepText := func(nodes int) string {
		return strings.Repeat("(print ", nodes-1) + "1" + strings.Repeat(")", nodes-1)
	}
	wideText := func(nodes int) string { return "(con0" + strings.Repeat(" v0", nodes-1) + ")" }
	if e := read(t, deepText(30)); text(e) != text(deep(30)) {
		t.Errorf("ParseExpr of 30 nodes = %v", e)
	}
	if e := read(t, wideText(30)); text(e) != text(wide(30)) {
		t.Errorf("ParseExpr of 30 nodes = %v", e)
	}
	for _, nodes := range []int{31, 32, 100000} {
		failsToParse(t, deepText(nodes))
		failsToParse(t, wideText(nodes))
	}
	// A text that is nested deeply must not be read to its end, and the long numbers of another one must not, either.
	failsToParse(t, strings.Repeat("(print ", 10000000))
	failsToParse(t, strings.Repeat("(", 10000000))
	failsToParse(t, strings.Repeat("9", 10000000))
	failsToParse(t, "v"+strings.Repeat("0", 10000000))
	failsToParse(t, strings.Repeat(" ", 10000000))
}

func TestParseExprAgreesWithTheSecondWay(t *testing.T) {
	m := maker{seed: 2401}
	found, none := 0, 0
	for _, e := range rawExprs() {
		if !mayShow(e) {
			continue
		}
		for try := 0; try < 20; try++ {
			s := m.spoiltText(shown(e))
			want, ok := readMeaning(s)
			got, fine := impl.ParseExpr(s)
			if fine != ok || text(got) != text(want) {
				t.Fatalf("ParseExpr(%q) = %v, %v, want %v, %v", s, got, fine, want, ok)
			}
			if ok {
				found++
			} else {
				none++
			}
		}
	}
	if found < 2000 || none < 5000 {
		t.Errorf("%d texts are those of expressions, and %d are not", found, none)
	}
}

func TestP221ExpressionsAreReadBack(t *testing.T) {
	read, none := 0, 0
	for _, e := range rawExprs() {
		s := impl.FormatExpr(e)
		got, ok := impl.ParseExpr(s)
		if s == "" {
			none++
			failsToParse(t, s)
			continue
		}
		read++
		if !ok || text(got) != text(e) {
			t.Fatalf("ParseExpr of FormatExpr(%v) = %v, %v", e, got, ok)
		}
	}
	if read < 500 || none < 100 {
		t.Errorf("%d expressions are read back, and %d have no text", read, none)
	}
}

func TestP223TextsAreWrittenBack(t *testing.T) {
	m := maker{seed: 2402}
	written := 0
	for _, e := range rawExprs() {
		if !mayShow(e) {
			continue
		}
		for s := shown(e); ; s = m.spoiltText(s) {
			e, ok := impl.ParseExpr(s)
			if !ok {
				break
			}
			if written++; impl.FormatExpr(e) != s {
				t.Fatalf("FormatExpr of ParseExpr(%q) = %q", s, impl.FormatExpr(e))
			}
		}
	}
	if written < 900 {
		t.Errorf("only %d texts are written back", written)
	}
}

// textPrograms returns valid programs of all kinds.
func textPrograms() []impl.Program {
	return append(append([]impl.Program{}, simplePrograms()...), richPrograms()...)
}

// failsToParseProgram tells if ParseProgram finds a program that it should not.
func failsToParseProgram(t *testing.T, s string) {
	t.Helper()
	if p, ok := impl.ParseProgram(s); ok || text(p) != text(impl.Program{}) {
		t.Errorf("ParseProgram(%.300q) = %v, %v", s, p, ok)
	}
}

// readProgram returns the program of a text.
func readProgram(t *testing.T, s string) impl.Program {
	t.Helper()
	p, ok := impl.ParseProgram(s)
	if !ok {
		t.Fatalf("ParseProgram(%q) fails", s)
	}
	return p
}

func TestTextsOfProgramsOfTheRules(t *testing.T) {
	for _, c := range []struct {
		p    impl.Program
		want string
	}{
		{sumProgram(), "data () (0,1)\nfun () 0 (call1 (con1 5 (con1 7 (con0))))\nfun (1) 0 (match1 v0 0 (add v1 (call1 v2)))\n"},
		{impl.Program{Funcs: []impl.Func{{}}}, "fun () 0 0\n"}, {impl.Program{Funcs: []impl.Func{{Body: num(-999)}, {Params: []int{0, 0, 0}, Body: v(2)}}}, "fun () 0 -999\nfun (0,0,0) 0 v2\n"},
		{impl.Program{Decls: []impl.Decl{arrow(0, 1)}, Funcs: []impl.Func{{Body: num(1)}}}, "arrow 0 1\nfun () 0 1\n"}, {impl.Program{Decls: []impl.Decl{data()}, Funcs: []impl.Func{{Body: num(1)}}}, "data ()\nfun () 0 1\n"}, {emptyProgram(), "data (1)\nfun () 0 -3\nfun (1) 0 (match1 v0 (call1 v1))\n"},
		{impl.Program{Decls: []impl.Decl{dataOf([]int{4, 3, 2}, nil, []int{0}), arrow(4, 1), arrow(0, 0), dataOf(nil, nil, nil)}, Funcs: []impl.Func{{}, {Params: []int{4, 2}, Result: 3, Body: ex(impl.OpClose, 2, v(0), v(1))}, {Params: []int{4, 2, 0}, Body: v(2)}, {Result: 4, Body: ex(impl.OpCon, 5)}}}, "data (4,3,2) () (0)\narrow 4 1\narrow 0 0\ndata () () ()\nfun () 0 0\nfun (4,2) 3 (close2 v0 v1)\nfun (4,2,0) 0 v2\nfun () 4 (con5)\n"},
	} {
		if got := impl.FormatProgram(c.p); got != c.want || shownProgram(c.p) != c.want {
			t.Errorf("FormatProgram(%v) = %q, want %q", c.p, got, c.want)
		}
		if got := readProgram(t, c.want); text(got) != text(c.p) {
			t.Errorf("ParseProgram(%q) = %v", c.want, got)
		}
	}
}

func TestFormatProgramOfInvalidPrograms(t *testing.T) {
	bad := append(badSigs(), impl.Program{}, withBody(sumProgram(), 0, v(0)), withBody(sumProgram(), 1, list()), withBody(sumProgram(), 1, endless()), withBody(sumProgram(), 0, num(1000)))
	for _, p := range bad {
		if s := impl.FormatProgram(p); s != "" {
			t.Errorf("FormatProgram(%.200s) = %.200q", text(p), s)
		}
	}
}

func TestParseProgramOfInvalidTexts(t *testing.T) {
	least := "fun () 0 1\n"
	for _, s := range []string{
		"", "\n", " ", "\n\n", "fun", "fun\n", "data", "data ()\n", "arrow 0 0\n", "data ()", "x\n",
		// Newlines and spaces too many or too few.
		"fun () 0 1", "fun () 0 1\n\n", "\nfun () 0 1\n", "fun () 0 1\n ", " fun () 0 1\n", "fun () 0 1 \n", "fun  () 0 1\n", "fun ()  0 1\n", "fun () 0  1\n", "fun() 0 1\n", "fun ()0 1\n", "fun () 01\n", "fun () 0\n", "fun () 0 \n", "fun ()\n", "fun () 0 1\r\n", "fun () 0 1\x00", "fun () 0 1\nfun () 0 1", "data ()fun () 0 1\n", "fun () 0 1fun () 0 1\n",
		"data () \n" + least, "data  ()\n" + least, "data()\n" + least, "data\n" + least, "data \n" + least, "data ( )\n" + least, "data ()()\n" + least, "data ()  ()\n" + least, "data ()\n\n" + least, "arrow 0  0\n" + least, "arrow  0 0\n" + least, "arrow 0 0 \n" + least, "arrow 0\n" + least, "arrow\n" + least, "arrow 0 0 0\n" + least, "arrow 00\n" + least,
		// Lists that are none.
		"data (0 1)\n" + least, "data (0, 1)\n" + least, "data (0,1,)\n" + least, "data (,0)\n" + least, "data (0,,1)\n" + least, "data (,)\n" + least, "data (0\n" + least, "data 0)\n" + least, "data 0\n" + least, "data ((0))\n" + least, "data (0))\n" + least, "data [0]\n" + least, "fun 0 0 1\n", "fun (0 0 1\n", "fun ) 0 1\n", "fun () 0 1\nfun (0,) 0 1\n", "fun () 0 1\nfun (0 ,0) 0 1\n",
		// Numbers that are none.
		"data (00)\n" + least, "data (-0)\n" + least, "data (01)\n" + least, "data (+0)\n" + least, "arrow 0 00\n" + least, "arrow -0 0\n" + least, "fun () 00 1\n", "fun () -0 1\n", "fun () 0 01\n", "fun () 0 -0\n", "fun () 0 1000\n", "arrow 0 1000\n" + least, "data (1000)\n" + least, "fun () 0 1\nfun (00) 0 1\n", "data (18446744073709551616)\n" + least,
		// Texts that are well formed, but not those of valid programs.
		"fun () 0 v0\n", "fun (0) 0 1\n", "fun () 1 1\n", "fun () 0 (con0)\n", "fun () 0 (call1)\n", "fun () 0 (add 1)\n", "fun () 0 (add)\n", "data (2)\n" + least, "arrow 0 2\n" + least, "arrow 0 0\narrow 0 0\n" + least, "data (-1)\n" + least, "arrow 0 -1\n" + least, "data (0,0,0,0)\n" + least, "data () () () ()\n" + least, least + "fun (0,0,0,0) 0 1\n", least + "fun (1) 0 1\n", least + "fun () 1 1\n", strings.Repeat("data ()\n", 5) + least, strings.Repeat(least, 5), "data ()\nfun () 0 (con0)\n", "data ()\nfun () 0 (match1 (con0))\n", "fun () 0 " + strings.Repeat("(print ", 30) + "1" + strings.Repeat(")", 30) + "\n", "fun () 0 (let 1 (let v0 v2))\n",
		// Declarations after functions, and words that there are not.
		least + "data ()\n", least + "arrow 0 0\n", least + "data ()\n" + least, "data ()\n" + least + "arrow 0 0\n" + least, "Fun () 0 1\n", "func () 0 1\n", "dat ()\n" + least, "datas ()\n" + least, "arrows 0 0\n" + least, "arrow() 0 0\n" + least, "type 0\n" + least, "#\n" + least, "fun () 0 (foo)\n", "fun () 0 (add 1 2\n", "fun () 0 (add 1 2))\n", "fun () 0 (add\n1 2)\n",
	} {
		failsToParseProgram(t, s)
		if _, ok := programMeaning(s); ok {
			t.Errorf("%q is the text of a program in the second way", s)
		}
	}
	for _, s := range []string{strings.Repeat("data ()\n", 1000000), strings.Repeat(least, 300000), "data" + strings.Repeat(" ()", 1000000) + "\n" + least, "data (" + strings.Repeat("0,", 1000000) + "0)\n" + least, strings.Repeat("arrow 0 0\n", 500000), "fun () 0 " + strings.Repeat("(print ", 1000000)} {
		failsToParseProgram(t, s)
	}
	// As many declarations and functions as there can be, and as many nodes in each of these.
	full := strings.Repeat("data ()\n", 4) + strings.Repeat("fun () 0 "+strings.Repeat("(print ", 29)+"1"+strings.Repeat(")", 29)+"\n", 4)
	if p := readProgram(t, full); len(p.Decls) != 4 || len(p.Funcs) != 4 || impl.FormatProgram(p) != full {
		t.Errorf("ParseProgram of the largest program = %v", p)
	}
}

func TestParseProgramAgreesWithTheSecondWay(t *testing.T) {
	m := maker{seed: 2403}
	found, none := 0, 0
	for _, p := range textPrograms() {
		for try := 0; try < 20; try++ {
			s := m.spoiltText(shownProgram(p))
			want, ok := programMeaning(s)
			got, fine := impl.ParseProgram(s)
			if fine != ok || text(got) != text(want) {
				t.Fatalf("ParseProgram(%q) = %v, %v, want %v, %v", s, got, fine, want, ok)
			}
			if ok {
				found++
			} else {
				none++
			}
		}
	}
	if found < 700 || none < 5000 {
		t.Errorf("%d texts are those of programs, and %d are not", found, none)
	}
}

func TestP224ProgramsAreReadBack(t *testing.T) {
	for _, p := range textPrograms() {
		s := impl.FormatProgram(p)
		if got, ok := impl.ParseProgram(s); !ok || s == "" || text(got) != text(p) {
			t.Fatalf("ParseProgram of FormatProgram(%v) = %v, %v", p, got, ok)
		}
	}
}

func TestP225EachDeclarationAndFunctionHasALine(t *testing.T) {
	for _, p := range textPrograms() {
		s := impl.FormatProgram(p)
		if strings.Count(s, "\n") != len(p.Decls)+len(p.Funcs) || !strings.HasSuffix(s, "\n") || s != shownProgram(p) {
			t.Fatalf("FormatProgram(%v) = %q", p, s)
		}
	}
}

func TestP226TextsOfProgramsAreWrittenBack(t *testing.T) {
	m := maker{seed: 2404}
	written := 0
	for _, p := range textPrograms() {
		for s := shownProgram(p); ; s = m.spoiltText(s) {
			p, ok := impl.ParseProgram(s)
			if !ok {
				break
			}
			if written++; impl.FormatProgram(p) != s || !impl.ValidProgram(p) {
				t.Fatalf("FormatProgram of ParseProgram(%q) = %q", s, impl.FormatProgram(p))
			}
		}
	}
	if written < 800 {
		t.Errorf("only %d texts are written back", written)
	}
}
