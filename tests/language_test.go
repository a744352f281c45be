package tests

import (
	"go/ast"
	"go/parser"
	"go/token"
	"go/types"
	"os"
	"strings"
	"testing"
)

// source is the code of package impl, or of a piece that is tried instead of it.
type source struct {
	files []*ast.File
	info  *types.Info
}

// newInfo returns what the type checker fills in.
func newInfo() *types.Info {
	return &types.Info{Uses: make(map[*ast.Ident]types.Object), Types: make(map[ast.Expr]types.TypeAndValue)}
}

// readImpl returns the code of package impl.
func readImpl(t *testing.T) source {
	t.Helper()
	entries, err := os.ReadDir("../impl")
	if err != nil {
		t.Fatal(err)
	}
	set := token.NewFileSet()
	out := source{info: newInfo()}
	for _, entry := range entries {
		if entry.IsDir() || !strings.HasSuffix(entry.Name(), ".go") {
			t.Fatalf("impl/%s is no Go file", entry.Name())
		}
		file, err := parser.ParseFile(set, "../impl/"+entry.Name(), nil, parser.SkipObjectResolution)
		if err != nil {
			t.Fatal(err)
		}
		out.files = append(out.files, file)
	}
	if _, err := new(types.Config).Check("impl", set, out.files, out.info); err != nil {
		t.Fatal(err)
	}
	return out
}

// readPiece returns the code of a piece of package impl, which may be wrong.
func readPiece(t *testing.T, code string) source {
	t.Helper()
	set := token.NewFileSet()
	file, err := parser.ParseFile(set, "piece.go", "package impl\n"+code, parser.SkipObjectResolution)
	if err != nil {
		t.Fatalf("%s: %v", code, err)
	}
	out := source{files: []*ast.File{file}, info: newInfo()}
	// A piece with an import cannot be checked whole, and what is known of it is enough.
	_, _ = new(types.Config).Check("impl", set, out.files, out.info)
	return out
}

// critic finds code outside of the subset of Go.
type critic struct {
	info   *types.Info
	called []ast.Expr
	bad    []string
}

// report keeps a breach.
func (c *critic) report(what string) {
	c.bad = append(c.bad, what)
}

// breaches returns what a piece of code has that the subset does not.
func breaches(s source) []string {
	c := &critic{info: s.info}
	for _, file := range s.files {
		if file.Name.Name != "impl" {
			c.report("package")
		}
		for _, d := range file.Decls {
			c.topLevel(d)
		}
		ast.Walk(c, file)
	}
	return c.bad
}

// topLevel looks at a declaration outside of functions.
func (c *critic) topLevel(d ast.Decl) {
	if g, ok := d.(*ast.GenDecl); ok && g.Tok == token.VAR {
		c.report("package variable")
	}
	if f, ok := d.(*ast.FuncDecl); ok && f.Recv == nil && f.Name.Name == "init" {
		c.report("init")
	}
}

// Visit looks at a node, and is called for each of them.
func (c *critic) Visit(n ast.Node) ast.Visitor {
	switch x := n.(type) {
	case *ast.ImportSpec:
		c.report("import")
	case *ast.InterfaceType:
		c.report("interface")
	case *ast.TypeSwitchStmt, *ast.TypeAssertExpr:
		c.report("type switch")
	case *ast.FuncLit:
		c.report("closure")
	case *ast.MapType:
		c.report("map")
	case *ast.ChanType, *ast.GoStmt, *ast.SendStmt, *ast.SelectStmt:
		c.report("goroutine")
	case *ast.DeferStmt:
		c.report("defer")
	case *ast.FuncDecl:
		// The type of a declaration is no function value.
		c.called = append(c.called, x.Type)
	case *ast.FuncType:
		c.funcType(x)
	case *ast.TypeSpec:
		if x.TypeParams != nil {
			c.report("generics")
		}
	case *ast.BranchStmt:
		if x.Tok == token.GOTO {
			c.report("goto")
		}
	case *ast.SliceExpr:
		if x.Slice3 {
			c.report("capacity")
		}
	case *ast.BasicLit:
		c.literal(x)
	case *ast.AssignStmt:
		c.assignment(x)
	case *ast.BinaryExpr:
		c.comparison(x)
	case *ast.CallExpr:
		c.called = append(c.called, ast.Unparen(x.Fun))
	case *ast.SelectorExpr:
		// A method that is called is called by its name, too.
		if c.isCalled(x) {
			c.called = append(c.called, x.Sel)
		}
	case *ast.Ident:
		c.name(x)
	}
	return c
}

// isCalled reports whether an expression is the function of a call.
func (c *critic) isCalled(e ast.Expr) bool {
	for _, other := range c.called {
		if other == e {
			return true
		}
	}
	return false
}

// funcType looks at the type of a function.
func (c *critic) funcType(f *ast.FuncType) {
	if f.TypeParams != nil {
		c.report("generics")
	}
	if !c.isCalled(f) {
		c.report("function value")
	}
}

// literal looks at a constant.
func (c *critic) literal(l *ast.BasicLit) {
	if l.Kind == token.FLOAT {
		c.report("float")
	}
	if l.Kind == token.IMAG {
		c.report("complex")
	}
}

// assignment looks for several elements or fields that are assigned at once.
func (c *critic) assignment(a *ast.AssignStmt) {
	for _, left := range a.Lhs {
		if _, ok := left.(*ast.Ident); !ok && len(a.Lhs) > 1 {
			c.report("assignment")
		}
	}
}

// comparison looks for a comparison with nil.
func (c *critic) comparison(b *ast.BinaryExpr) {
	if b.Op == token.EQL || b.Op == token.NEQ {
		if c.info.Types[b.X].IsNil() || c.info.Types[b.Y].IsNil() {
			c.report("nil")
		}
	}
}

// name looks at the use of a name.
func (c *critic) name(id *ast.Ident) {
	object := c.info.Uses[id]
	if _, ok := object.(*types.Func); ok && !c.isCalled(id) {
		c.report("function value")
	}
	if object == nil || object.Parent() != types.Universe {
		return
	}
	switch id.Name {
	case "any", "error", "comparable":
		c.report("interface")
	case "cap":
		c.report("capacity")
	case "panic", "recover":
		c.report("panic")
	case "float32", "float64":
		c.report("float")
	case "complex64", "complex128", "complex", "real", "imag":
		c.report("complex")
	}
}

func TestImplKeepsToTheSubset(t *testing.T) {
	if bad := breaches(readImpl(t)); len(bad) > 0 {
		t.Errorf("impl has %v", bad)
	}
}

// A critic that finds nothing in impl must be one that finds something elsewhere.
func TestTheCriticFindsBreaches(t *testing.T) {
	for _, piece := range [][]string{
		{"import", `import "strings"`},
		{"package variable", "var x = 1"},
		{"init", "func init() {}"},
		{"interface", "type t interface{}"},
		{"interface", "func f(x any) {}"},
		{"interface", "func f() error { return nil }"},
		{"type switch", "func f(x any) { switch x.(type) {} }"},
		{"closure", "func f() { func() {}() }"},
		{"function value", "func g() {}\nfunc f() { x := g; x() }"},
		{"function value", "func f(x func()) { x() }"},
		{"function value", "type t struct{}\nfunc (t) m() {}\nfunc f(x t) { y := x.m; y() }"},
		{"function value", "type t struct{ f func() }"},
		{"map", "func f() { x := map[int]int{}; x[0] = 1 }"},
		{"goroutine", "func g() {}\nfunc f() { go g() }"},
		{"goroutine", "func f(x chan int) {}"},
		{"defer", "func g() {}\nfunc f() { defer g() }"},
		{"panic", "func f() { panic(1) }"},
		{"panic", "func f() { recover() }"},
		{"goto", "func f() {\nx:\n\tgoto x\n}"},
		{"generics", "func f[T int](x T) {}"},
		{"generics", "type t[T int] struct{ x T }"},
		{"complex", "func f() { x := 1i; _ = x }"},
		{"complex", "func f(x complex128) {}"},
		{"float", "func f(x float64) {}"},
		{"float", "func f() { x := 0.5; _ = x }"},
		{"assignment", "func f(a []int) { a[0], a[1] = a[1], a[0] }"},
		{"capacity", "func f(a []int) int { return cap(a) }"},
		{"capacity", "func f(a []int) []int { return a[0:1:1] }"},
		{"nil", "func f(a []int) bool { return a == nil }"},
		{"nil", "func f(a []int) bool { return nil != a }"},
	} {
		if bad := breaches(readPiece(t, piece[1])); !strings.Contains(strings.Join(bad, ","), piece[0]) {
			t.Errorf("%q has %v, want %s", piece[1], bad, piece[0])
		}
	}
}

func TestTheCriticFindsNothingElse(t *testing.T) {
	for _, code := range []string{
		"func g(a int) int { return a }\nfunc f(a int, b int) int { a, b = b, a; return g(a) }",
		"type t struct{ x []int }\nfunc (y *t) m() { y.x = append(y.x, 1) }\nfunc f(y *t) { y.m() }",
		"func f(a []int) ([]int, bool) { return nil, len(a[1:]) > 0 }",
		"const a = 1\nfunc f(n int) int { if n < a { return 0 }; return f(n - 1) }",
	} {
		if bad := breaches(readPiece(t, code)); len(bad) > 0 {
			t.Errorf("%q has %v", code, bad)
		}
	}
}

// calls is a function, and the names of what it calls.
type calls struct {
	name  string
	names []string
	loops int
}

// caller collects what a function calls.
type caller struct {
	found calls
}

// Visit looks at a node, and is called for each of them.
func (c *caller) Visit(n ast.Node) ast.Visitor {
	switch x := n.(type) {
	case *ast.CallExpr:
		switch f := x.Fun.(type) {
		case *ast.Ident:
			c.found.names = append(c.found.names, f.Name)
		case *ast.SelectorExpr:
			c.found.names = append(c.found.names, f.Sel.Name)
		}
	case *ast.ForStmt, *ast.RangeStmt:
		c.found.loops++
	}
	return c
}

// callsOf returns the functions of a file of impl.
func callsOf(t *testing.T, name string) []calls {
	t.Helper()
	file, err := parser.ParseFile(token.NewFileSet(), "../impl/"+name, nil, parser.SkipObjectResolution)
	if err != nil {
		t.Fatal(err)
	}
	var out []calls
	for _, d := range file.Decls {
		if f, ok := d.(*ast.FuncDecl); ok {
			c := &caller{found: calls{name: f.Name.Name}}
			ast.Walk(c, f.Body)
			out = append(out, c.found)
		}
	}
	return out
}

// reaches reports whether a function calls another one, by way of at most some functions of a list.
func reaches(list []calls, from string, to string, most int) bool {
	if most < 0 {
		return false
	}
	for _, c := range list {
		if c.name != from {
			continue
		}
		for _, name := range c.names {
			if name == to || reaches(list, name, to, most-1) {
				return true
			}
		}
	}
	return false
}

// recursive reports whether a function calls itself, or one that does, by way of at most some functions of a list.
func recursive(list []calls, name string, most int) bool {
	if reaches(list, name, name, most) {
		return true
	}
	for _, c := range list {
		if reaches(list, name, c.name, most) && reaches(list, c.name, c.name, most) {
			return true
		}
	}
	return false
}

func TestWaysOfTheFirstStage(t *testing.T) {
	loops := 0
	for _, c := range callsOf(t, "l1_type.go") {
		loops += c.loops
	}
	if loops == 0 {
		t.Error("types are made without loops over declarations")
	}
	if !recursive(callsOf(t, "l2_program.go"), "TypeOf", 4) {
		t.Error("the type checker is not recursive")
	}
	for _, name := range []string{"FreeOf", "MentionsOf", "Shift"} {
		if !recursive(callsOf(t, "l3_scope.go"), name, 4) {
			t.Errorf("%s is not a recursive function on trees", name)
		}
	}
}

// declared returns the declarations of a file of impl.
func declared(t *testing.T, name string) []ast.Decl {
	t.Helper()
	file, err := parser.ParseFile(token.NewFileSet(), "../impl/"+name, nil, parser.SkipObjectResolution)
	if err != nil {
		t.Fatal(err)
	}
	return file.Decls
}

// receiver returns the name of the type that a function is a method of; "" if it is none.
func receiver(f *ast.FuncDecl) string {
	if f.Recv == nil {
		return ""
	}
	return strings.TrimPrefix(types.ExprString(f.Recv.List[0].Type), "*")
}

// signature is the form of a function: the type that it is a method of, and the types of its parameters and results.
type signature struct {
	of     string
	params string
	result string
}

// signaturesIn returns the forms of the functions of a file of impl.
func signaturesIn(t *testing.T, name string) []signature {
	t.Helper()
	var out []signature
	for _, d := range declared(t, name) {
		if f, ok := d.(*ast.FuncDecl); ok {
			out = append(out, signature{of: receiver(f), params: fieldTypes(f.Type.Params), result: fieldTypes(f.Type.Results)})
		}
	}
	return out
}

// fieldTypes returns the types of parameters or results.
func fieldTypes(list *ast.FieldList) string {
	var out []string
	if list == nil {
		return ""
	}
	for _, field := range list.List {
		for range max(1, len(field.Names)) {
			out = append(out, types.ExprString(field.Type))
		}
	}
	return strings.Join(out, ", ")
}

// hasSignature reports whether a function of a file of impl has a form; the type that it is a method of counts only if it is not "".
func hasSignature(t *testing.T, name string, want signature) bool {
	t.Helper()
	for _, s := range signaturesIn(t, name) {
		if s.params == want.params && s.result == want.result && (want.of == "" || s.of == want.of) {
			return true
		}
	}
	return false
}

func TestWaysOfTheSecondStage(t *testing.T) {
	if !hasSignature(t, "l4_eval.go", signature{of: "evaluator", params: "[]value, Expr", result: "value"}) {
		t.Error("expressions are evaluated without an environment of values")
	}
	if !hasSignature(t, "l5_normal.go", signature{of: "builder", params: "[]int, Expr", result: "int"}) {
		t.Error("normal forms are made without a builder with methods")
	}
	if !hasSignature(t, "l6_use.go", signature{params: "[]int, []int", result: "[]int"}) {
		t.Error("uses are found without sets as slices")
	}
}

func TestWaysOfTheThirdStage(t *testing.T) {
	if !hasSignature(t, "l7_count.go", signature{of: "counter", params: "Block, []int", result: "Block"}) || !hasField(t, "l7_count.go", "counter", "owned", "[]int") {
		t.Error("precise counts are put in without sets of owned variables")
	}
	if !hasSignature(t, "l8_balance.go", signature{of: "ledger", params: "Step", result: "bool"}) || !recursive(callsOf(t, "l8_balance.go"), "Balanced", 6) {
		t.Error("balance is checked without an abstract interpreter")
	}
	// The specification suggests maps, which the subset leaves out.
	if !hasSignature(t, "l9_late.go", signature{params: "[]surplus, int, int", result: "[]surplus"}) {
		t.Error("late counts are cancelled without numbers of variables")
	}
}

func TestWaysOfTheFourthStage(t *testing.T) {
	if !hasSignature(t, "l10_open.go", signature{params: "arm, []Step", result: "[]Step"}) {
		t.Error("values are taken apart without rewriting the steps with which blocks begin")
	}
	if !hasSignature(t, "l11_reuse.go", signature{params: "[]Step, int", result: "int"}) {
		t.Error("cells are reused without a search in a slice of steps")
	}
	if !loopsAsLongAs(t, "l12_lend.go", "Borrow") {
		t.Error("parameters are lent without an iteration to a fixed point")
	}
}

// loopsAsLongAs reports whether a function of a file of impl has a loop that goes on as long as a single variable is true.
func loopsAsLongAs(t *testing.T, name string, function string) bool {
	t.Helper()
	found := false
	for _, d := range declared(t, name) {
		f, ok := d.(*ast.FuncDecl)
		if !ok || f.Name.Name != function {
			continue
		}
		ast.Inspect(f, func(n ast.Node) bool {
			if loop, ok := n.(*ast.ForStmt); ok {
				_, alone := loop.Cond.(*ast.Ident)
				found = found || alone
			}
			return true
		})
	}
	return found
}

// hasField reports whether a type of a file of impl is a struct with a field.
func hasField(t *testing.T, name string, of string, field string, want string) bool {
	t.Helper()
	found := false
	for _, d := range declared(t, name) {
		ast.Inspect(d, func(n ast.Node) bool {
			spec, ok := n.(*ast.TypeSpec)
			if !ok || spec.Name.Name != of {
				return true
			}
			if s, ok := spec.Type.(*ast.StructType); ok {
				for _, f := range s.Fields.List {
					for _, id := range f.Names {
						found = found || id.Name == field && types.ExprString(f.Type) == want
					}
				}
			}
			return true
		})
	}
	return found
}
