package tests

import (
	"fmt"
	"strconv"
	"strings"
	"testing"

	"loop.example/refcountml/impl"
)

// numbersText returns numbers with commas between them.
func numbersText(list ...int) string {
	return strings.Trim(shownNumbers(list), "()")
}

// outcomeMeaning returns what FormatOutcome should.
func outcomeMeaning(o impl.Outcome) string {
	for _, n := range append([]int{o.Value}, o.Out...) {
		if n < -999 || n > 999 {
			return ""
		}
	}
	first, ok := map[int]string{0: fmt.Sprint("done ", o.Value), 1: "spent", 2: "fault"}[o.Status]
	if !ok || o.Status > 0 && o.Value != 0 || o.Calls < 0 || o.Calls > 40 {
		return ""
	}
	return fmt.Sprintf("%s %d %s", first, o.Calls, numbersText(o.Out...))
}

// wordNumber returns the number for which a word stands.
func wordNumber(word string) int {
	n, err := strconv.Atoi(word)
	if err != nil || n < 0 || n > 999 || strconv.Itoa(n) != word {
		return -1
	}
	return n
}

// sessionMeaning returns what RunSession should for a valid program and not too many lines.
func sessionMeaning(p impl.Program, lines []string) string {
	out := ""
	for _, l := range lines {
		words := strings.Split(l, " ")
		var n []int
		for _, word := range words[1:] {
			n = append(n, wordNumber(word))
		}
		answer, ok := "what", true
		switch fmt.Sprint(words[0], len(n)) {
		case "fold0", "known0", "inline1":
			var other impl.Program
			switch words[0] {
			case "fold":
				other, ok = impl.Fold(p)
			case "known":
				other, ok = impl.KnownCalls(p)
			default:
				other, ok = impl.Inline(p, n[0])
			}
			if answer = "ok"; ok {
				p = other
			}
		case "eval1":
			var o impl.Outcome
			o, ok = impl.Eval(p, n[0])
			answer = outcomeMeaning(o)
		case "run2":
			var o impl.Outcome
			o, ok = impl.Perform(p, n[0], n[1])
			answer = outcomeMeaning(o)
		case "cost2":
			var c impl.Stats
			c, ok = impl.CostOf(p, n[0], n[1])
			answer = numbersText(c.Steps, c.Allocs, c.Reuses, c.Dups, c.Drops, c.Peak, c.Depth, c.Shared)
		case "size1":
			var im impl.Image
			im, ok = impl.Compile(p, n[0])
			answer = fmt.Sprint(len(encodeMeaning(im)))
		case "body1":
			if ok = n[0] >= 0 && n[0] < len(p.Funcs); ok {
				answer = shown(p.Funcs[n[0]].Body)
			}
		}
		if !ok {
			answer = "no"
		}
		out += answer + "\n"
	}
	return out
}

// outcomes returns outcomes with and without texts.
func outcomes() []impl.Outcome {
	var out []impl.Outcome
	for _, status := range []int{-1, 0, 1, 2, 3, 1 << 62, -1 << 63} {
		for _, value := range []int{-1000, -999, -7, 0, 1, 999, 1000, -1 << 63} {
			for _, calls := range []int{-1, 0, 1, 9, 10, 39, 40, 41, 1 << 62} {
				for _, printed := range [][]int{nil, {}, {0}, {-999, 999}, {5, 0, -1}, {1000}, {1, -1000}, {1 << 62}} {
					out = append(out, impl.Outcome{Status: status, Value: value, Calls: calls, Out: printed})
				}
			}
		}
	}
	return out
}

func TestFormatOutcomeOfTheRules(t *testing.T) {
	for _, c := range []struct {
		o    impl.Outcome
		want string
	}{
		{impl.Outcome{}, "done 0 0 "}, {impl.Outcome{Value: -3, Calls: 7, Out: []int{1, -2}}, "done -3 7 1,-2"}, {impl.Outcome{Value: 999, Calls: 40, Out: []int{-999}}, "done 999 40 -999"}, {impl.Outcome{Value: -999}, "done -999 0 "},
		{impl.Outcome{Status: 1}, "spent 0 "}, {impl.Outcome{Status: 1, Calls: 40, Out: []int{10, 0, 7}}, "spent 40 10,0,7"}, {impl.Outcome{Status: 2}, "fault 0 "}, {impl.Outcome{Status: 2, Calls: 1, Out: []int{0}}, "fault 1 0"},
		{impl.Outcome{Status: 3}, ""}, {impl.Outcome{Status: -1}, ""}, {impl.Outcome{Status: 4}, ""}, {impl.Outcome{Status: 1, Value: 1}, ""}, {impl.Outcome{Status: 2, Value: -1}, ""}, {impl.Outcome{Status: 3, Value: 1}, ""},
		{impl.Outcome{Value: 1000}, ""}, {impl.Outcome{Value: -1000}, ""}, {impl.Outcome{Calls: 41}, ""}, {impl.Outcome{Calls: -1}, ""}, {impl.Outcome{Status: 1, Calls: 41}, ""}, {impl.Outcome{Out: []int{1000}}, ""}, {impl.Outcome{Out: []int{0, 0, -1000}}, ""}, {impl.Outcome{Status: 2, Out: []int{1 << 62}}, ""},
	} {
		if got := impl.FormatOutcome(c.o); got != c.want || outcomeMeaning(c.o) != c.want {
			t.Errorf("FormatOutcome(%v) = %q, want %q", c.o, got, c.want)
		}
	}
	for _, o := range outcomes() {
		if got, want := impl.FormatOutcome(o), outcomeMeaning(o); got != want {
			t.Errorf("FormatOutcome(%v) = %q, want %q", o, got, want)
		}
	}
	long := impl.Outcome{Out: make([]int, 5000)}
	if got := impl.FormatOutcome(long); got != "done 0 0 "+strings.Repeat("0,", 4999)+"0" {
		t.Errorf("FormatOutcome of many numbers = %.100q", got)
	}
}

// answersTo returns the answers to some lines on a program.
func answersTo(p impl.Program, lines ...string) string {
	return impl.RunSession(p, lines)
}

func TestRunSessionOfTheRules(t *testing.T) {
	body := "(match1 v0 0 (add v1 (call1 v2)))"
	for _, c := range []struct {
		line string
		want string
	}{
		{"fold", "ok"}, {"known", "ok"}, {"eval 40", "done 12 3 "}, {"eval 3", "done 12 3 "}, {"eval 2", "spent 2 "}, {"eval 0", "spent 0 "}, {"run 0 40", "done 12 3 "}, {"run 255 2", "spent 2 "}, {"run 102 0", "spent 0 "}, {"cost 0 40", "31,3,0,2,3,3,4,2"}, {"cost 32 0", "6,3,0,0,0,3,1,1"}, {"size 0", "320"}, {"size 128", "320"}, {"body 0", "(call1 (con1 5 (con1 7 (con0))))"}, {"body 1", body},
		// What fails, by numbers that are too large, or because there is nothing of that kind.
		{"inline 0", "no"}, {"inline 1", "no"}, {"inline 2", "no"}, {"eval 41", "no"}, {"eval 999", "no"}, {"run 256 1", "no"}, {"run 1 41", "no"}, {"run 0 999", "no"}, {"cost 256 1", "no"}, {"cost 0 41", "no"}, {"size 256", "no"}, {"size 999", "no"}, {"body 2", "no"}, {"body 999", "no"},
		// Words that are no numbers: they are empty, too long, or have zeros, signs or letters.
		{"eval ", "no"}, {"eval 040", "no"}, {"eval 00", "no"}, {"eval 0000", "no"}, {"eval 1000", "no"}, {"eval 0040", "no"}, {"eval -1", "no"}, {"eval -0", "no"}, {"eval +1", "no"}, {"eval x", "no"}, {"eval 1x", "no"}, {"eval 4\t", "no"}, {"eval 4\n", "no"}, {"eval 1.0", "no"}, {"eval ٣", "no"}, {"eval 18446744073709551617", "no"},
		{"inline ", "no"}, {"size ", "no"}, {"body ", "no"}, {"body 01", "no"}, {"body -1", "no"}, {"body v", "no"}, {"run  ", "no"}, {"run 1 ", "no"}, {"run  1", "no"}, {"run 01 1", "no"}, {"run 1 01", "no"}, {"cost  ", "no"}, {"cost 0 ", "no"}, {"cost  40", "no"}, {"cost 0 1000", "no"}, {"run eval 1", "no"},
		// Lines that are no commands, or have words too many or too few.
		{"", "what"}, {" ", "what"}, {"  ", "what"}, {"   ", "what"}, {"help", "what"}, {"fold ", "what"}, {"fold 1", "what"}, {"known ", "what"}, {"known 0", "what"}, {" fold", "what"}, {"inline", "what"}, {"inline 1 ", "what"}, {"inline 1 1", "what"}, {"eval", "what"}, {"eval  ", "what"}, {"eval 1 ", "what"}, {"eval  1", "what"}, {"eval 1 1", "what"}, {" eval 1", "what"}, {"run", "what"}, {"run ", "what"}, {"run 1", "what"}, {"run 1 1 ", "what"}, {"run 1 1 1", "what"}, {"run 1  1", "what"},
		{"cost", "what"}, {"cost 1", "what"}, {"cost 0 40 0", "what"}, {"size", "what"}, {"size 0 0", "what"}, {"body", "what"}, {"body 1 1", "what"}, {"Eval 1", "what"}, {"evals 1", "what"}, {"eva 1", "what"}, {"eval1", "what"}, {"eval\t1", "what"}, {"eval 1\nbody 1 ", "what"}, {"fold\n", "what"}, {"what", "what"}, {"1", "what"}, {"40 eval", "what"}, {"fold known", "what"}, {strings.Repeat(" ", 10000000), "what"}, {strings.Repeat("eval", 1000000), "what"}, {"eval " + strings.Repeat("1", 1000000), "no"},
	} {
		if got := answersTo(sumProgram(), c.line); got != c.want+"\n" || sessionMeaning(sumProgram(), []string{c.line}) != c.want+"\n" {
			t.Errorf("RunSession of %.100q = %q, want %q", c.line, got, c.want)
		}
	}
}

func TestRunSessionPutsOtherPrograms(t *testing.T) {
	rich := richPrograms()[0]
	folded, _ := impl.Fold(rich)
	known, _ := impl.KnownCalls(folded)
	inlined, ok := impl.Inline(known, 3)
	if !ok || text(folded) == text(rich) || text(known) == text(folded) || text(inlined) == text(known) {
		t.Fatalf("Fold, KnownCalls and Inline = %v, %v, %v", folded, known, inlined)
	}
	want := shown(rich.Funcs[0].Body) + "\nok\n" + shown(folded.Funcs[0].Body) + "\nok\n" + shown(known.Funcs[0].Body) + "\nok\n" + shown(inlined.Funcs[0].Body) + "\nno\n" + shown(inlined.Funcs[0].Body) + "\nwhat\n" + shown(inlined.Funcs[0].Body) + "\n"
	if got := answersTo(rich, "body 0", "fold", "body 0", "known", "body 0", "inline 3", "body 0", "inline 1", "body 0", "fold 1", "body 0"); got != want {
		t.Errorf("RunSession = %q, want %q", got, want)
	}
	// Where fold fails nothing changes, and each answer is to the program that there is.
	large := withBody(withBody(boxProgram(), 0, boxed(30)), 1, num(7))
	if got := answersTo(large, "fold", "body 1", "body 0", "eval 1", "run 1 1", "run 2 1", "cost 1 1", "size 1"); !strings.HasPrefix(got, "no\n7\n(match1 ") || !strings.HasSuffix(got, "no\nno\n") || strings.Count(got, "no\n") != 4 {
		t.Errorf("RunSession = %q", got)
	}
	// Each command goes on with the program that the ones before have made.
	calls := impl.Program{Funcs: []impl.Func{{Body: add(ex(impl.OpCall, 1, num(2)), ex(impl.OpCall, 1, num(3)))}, {Params: []int{0}, Body: ex(impl.OpPrint, 0, v(0))}}}
	if got := answersTo(calls, "eval 40", "run 0 1", "inline 1", "eval 0", "run 0 0", "body 0", "inline 1"); got != "done 5 2 2,3\nspent 1 2\nok\ndone 5 0 2,3\ndone 5 0 2,3\n(add (let 2 (print v0)) (let 3 (print v0)))\nok\n" {
		t.Errorf("RunSession = %q", got)
	}
}

func TestRunSessionOfInvalidArguments(t *testing.T) {
	bad := append(badSigs(), impl.Program{}, withBody(sumProgram(), 0, v(0)), withBody(sumProgram(), 1, endless()))
	for _, p := range bad {
		for _, lines := range [][]string{nil, {""}, {"eval 1"}, {"help", "fold"}} {
			if got := impl.RunSession(p, lines); got != "" {
				t.Errorf("RunSession(%.200s, %q) = %q", text(p), lines, got)
			}
		}
	}
	p := sumProgram()
	for _, lines := range [][]string{nil, {}} {
		if got := impl.RunSession(p, lines); got != "" {
			t.Errorf("RunSession of no lines = %q", got)
		}
	}
	lines := make([]string, 21)
	for k := range lines {
		lines[k] = fmt.Sprint("eval ", k)
	}
	if got := impl.RunSession(p, lines[:20]); strings.Count(got, "\n") != 20 || got != sessionMeaning(p, lines[:20]) {
		t.Errorf("RunSession of 20 lines = %q", got)
	}
	for _, many := range [][]string{lines, make([]string, 21), make([]string, 100000)} {
		if got := impl.RunSession(p, many); got != "" {
			t.Errorf("RunSession of %d lines = %.200q", len(many), got)
		}
	}
}

// sessionLine returns a line, which is mostly a command with numbers.
func (m *maker) sessionLine() string {
	number := func() string {
		return []string{fmt.Sprint(m.pick(41)), fmt.Sprint(m.pick(4)), fmt.Sprint(m.pick(256)), "", "040", "1000", "256", "41", "-1", "x"}[min(9, m.pick(16)*m.pick(16)/16)]
	}
	switch m.pick(12) {
	case 0:
		return "fold"
	case 1:
		return "known"
	case 2:
		return fmt.Sprint("inline ", m.pick(5))
	case 3:
		return "eval " + number()
	case 4, 5:
		return fmt.Sprint("run ", m.pick(256), " ", m.pick(41))
	case 6:
		return "run " + number() + " " + number()
	case 7:
		return fmt.Sprint("cost ", m.pick(256), " ", number())
	case 8:
		return "size " + number()
	case 9, 10:
		return fmt.Sprint("body ", m.pick(5))
	}
	return m.spoiltText(m.sessionLine())
}

// sessions calls a function for programs and lines.
func sessions(check func(p impl.Program, lines []string)) {
	m := &maker{seed: 2601}
	for i, p := range simplePrograms() {
		if i%2 == 0 {
			continue
		}
		var lines []string
		for k := m.pick(9); k >= 0; k-- {
			lines = append(lines, m.sessionLine())
		}
		check(p, lines)
	}
	for _, p := range richPrograms() {
		for n := 0; n <= 20; n++ {
			var lines []string
			for range n {
				lines = append(lines, m.sessionLine())
			}
			check(p, lines)
		}
	}
}

func TestRunSessionAgreesWithTheSecondWay(t *testing.T) {
	marks := make(map[string]int)
	sessions(func(p impl.Program, lines []string) {
		got := impl.RunSession(p, lines)
		if want := sessionMeaning(p, lines); got != want {
			t.Fatalf("RunSession(%v, %q) = %q, want %q", p, lines, got, want)
		}
		for _, answer := range strings.Split(got, "\n") {
			word, _, _ := strings.Cut(answer, " ")
			marks[word]++
		}
	})
	for _, word := range []string{"ok", "no", "what", "done", "spent"} {
		if marks[word] < 80 {
			t.Errorf("only %d answers begin with %s", marks[word], word)
		}
	}
}

func TestP236OutcomesAreToldApart(t *testing.T) {
	for _, o := range outcomes() {
		s := impl.FormatOutcome(o)
		more := o
		more.Calls++
		if o.Calls > 40 && s != "" {
			t.Fatalf("FormatOutcome(%v) = %q", o, s)
		}
		if s == "" {
			continue
		}
		if other := impl.FormatOutcome(more); other == s || (other == "") != (o.Calls == 40) {
			t.Fatalf("FormatOutcome(%v) = %q, and with one call more %q", o, s, other)
		}
		for _, value := range []int{-999, -1, 0, 1, 10, 999} {
			another := o
			if another.Value = value; value != o.Value && impl.FormatOutcome(another) == s {
				t.Fatalf("FormatOutcome(%v) = %q, also with the value %d", o, s, value)
			}
		}
	}
	for a := 0; a < 40; a++ {
		for b := a + 1; b <= 40; b++ {
			if x, y := impl.FormatOutcome(impl.Outcome{Calls: a}), impl.FormatOutcome(impl.Outcome{Calls: b}); x == "" || y == "" || x == y {
				t.Fatalf("FormatOutcome with %d calls = %q, and with %d %q", a, x, b, y)
			}
		}
	}
}

func TestP237EachLineHasAnAnswer(t *testing.T) {
	sessions(func(p impl.Program, lines []string) {
		got := impl.RunSession(p, lines)
		if strings.Count(got, "\n") != len(lines) || len(lines) > 0 && !strings.HasSuffix(got, "\n") || strings.Contains("\n"+got, "\n\n") {
			t.Fatalf("RunSession(%v, %q) = %q", p, lines, got)
		}
	})
}

func TestP238SessionsAnswerLineByLine(t *testing.T) {
	sessions(func(p impl.Program, lines []string) {
		whole := impl.RunSession(p, lines)
		for k := range lines {
			if first := impl.RunSession(p, lines[:k]); !strings.HasPrefix(whole, first) || strings.Count(first, "\n") != k {
				t.Fatalf("RunSession(%v, %q) = %q, and of the first %d lines %q", p, lines, whole, k, first)
			}
		}
	})
}

func TestP239SessionsAnswerWhatFunctionsTell(t *testing.T) {
	for i, p := range append(richPrograms(), simplePrograms()...) {
		o, ok := impl.Eval(p, 9)
		want := impl.FormatOutcome(o) + "\n"
		if got := answersTo(p, "eval 9", "run 0 9", "run 102 9", "run 254 9"); !ok || got != want+want+want+want {
			t.Fatalf("RunSession(%v) = %q, want %q four times", p, got, want)
		}
		flags := i * 2 % 256
		c, fine := impl.CostOf(p, flags, 9)
		im, well := impl.Compile(p, flags)
		want = fmt.Sprintf("%d,%d,%d,%d,%d,%d,%d,%d\n%d\n", c.Steps, c.Allocs, c.Reuses, c.Dups, c.Drops, c.Peak, c.Depth, c.Shared, len(impl.EncodeImage(im)))
		if got := answersTo(p, fmt.Sprintf("cost %d 9", flags), fmt.Sprint("size ", flags)); !fine || !well || got != want {
			t.Fatalf("RunSession(%v) with the flags %d = %q, want %q", p, flags, got, want)
		}
		for f := range p.Funcs {
			if got := answersTo(p, fmt.Sprint("body ", f)); got != impl.FormatExpr(p.Funcs[f].Body)+"\n" {
				t.Fatalf("RunSession(%v) of the body %d = %q", p, f, got)
			}
		}
	}
}

func TestP240SessionsGoOnWithTheNewProgram(t *testing.T) {
	folded, known, failed := 0, 0, 0
	for i, p := range append(richPrograms(), simplePrograms()...) {
		most := fmt.Sprint("eval ", []int{40, i % 41}[i%2])
		before := answersTo(p, most)
		for _, command := range []string{"fold", "known"} {
			got := answersTo(p, most, command, most)
			rest, fine := strings.CutPrefix(got, before+"ok\n")
			if !fine {
				rest, fine = strings.CutPrefix(got, before+"no\n")
				failed++
			}
			if !fine || rest != before {
				t.Fatalf("RunSession(%v) with %s = %q", p, command, got)
			}
		}
		other, ok := impl.Fold(p)
		if ok && text(other) != text(p) {
			folded++
			if got := answersTo(p, "fold", "body 0", "body 1"); !strings.HasPrefix(got, "ok\n"+shown(other.Funcs[0].Body)+"\n") {
				t.Fatalf("RunSession(%v) = %q", p, got)
			}
		}
		if other, ok = impl.KnownCalls(p); ok && text(other) != text(p) {
			known++
			if got := answersTo(p, "known", "body 0", "body 1"); !strings.HasPrefix(got, "ok\n"+shown(other.Funcs[0].Body)+"\n") {
				t.Fatalf("RunSession(%v) = %q", p, got)
			}
		}
	}
	if folded < 200 || known < 100 || failed < 5 {
		t.Errorf("%d programs are folded, %d apply known closures, and %d cannot be folded", folded, known, failed)
	}
}
