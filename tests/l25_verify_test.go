package tests

import (
	"testing"

	"loop.example/refcountml/impl"
)

// knowing is code of a procedure with some parameters, and the types and owners before each instruction; "" for those of which nothing is known.
type knowing struct {
	proving
	types []string
	owns  []string
}

func TestTypesAndOwnersOfTheRules(t *testing.T) {
	list := []int{1}
	for _, c := range []knowing{
		{good(list, nil, 1, back(0)), []string{"[1 -1 -1 -1 -1 -1]"}, []string{"[1 0 0 0 0 0]"}},
		{good([]int{0, 1, 2}, []int{1}, 2, intTo(4, 7), dupOf(2), dropOf(2), back(2)), []string{"[0 1 2 -1 -1 -1]", "[0 1 2 -1 0 -1]", "[0 1 2 -1 0 -1]", "[0 1 2 -1 0 -1]"}, []string{"[0 0 1 0 0 0]", "[0 0 1 0 0 0]", "[0 0 2 0 0 0]", "[0 0 1 0 0 0]"}},
		// What is set has its type at once, and what is consumed keeps it.
		{good(list, nil, 1, move(5, 0), callTo(1, 2, 5), closeTo(2, 2), applyTo(3, 2, 1), conTo(0, 0), dropOf(0), printTo(0, 4), back(3)), nil, nil},
		{good(list, nil, 1, move(5, 0), callTo(1, 2, 5), closeTo(2, 2), applyTo(3, 2, 1), conTo(0, 0), dropOf(0), intTo(0, 4), back(3)), []string{"[1 -1 -1 -1 -1 -1]", "[1 -1 -1 -1 -1 1]", "[1 1 -1 -1 -1 1]", "[1 1 2 -1 -1 1]", "[1 1 2 1 -1 1]", "[1 1 2 1 -1 1]", "[1 1 2 1 -1 1]", "[0 1 2 1 -1 1]"}, []string{"[1 0 0 0 0 0]", "[0 0 0 0 0 1]", "[0 1 0 0 0 0]", "[0 1 1 0 0 0]", "[0 0 0 1 0 0]", "[1 0 0 1 0 0]", "[0 0 0 1 0 0]", "[0 0 0 1 0 0]"}},
		// Fields are known by their types, and owned when what they come from is taken apart.
		{pairOf(true, false, dupOf(0), openOf(0, 2), dropOf(2), back(0)), []string{"[1 -1 -1 -1 -1 -1]", "[1 -1 -1 -1 -1 -1]", "[1 -1 -1 -1 -1 -1]", "[1 0 -1 -1 -1 -1]", "[1 0 1 -1 -1 -1]", "[1 0 1 -1 -1 -1]", "[1 0 1 -1 -1 -1]", "[1 0 1 -1 -1 -1]"}, []string{"[1 0 0 0 0 0]", "[1 0 0 0 0 0]", "[1 0 0 0 0 0]", "[1 0 0 0 0 0]", "[1 0 0 0 0 0]", "[2 0 0 0 0 0]", "[1 0 1 0 0 0]", "[1 0 0 0 0 0]"}},
		{pairOf(true, false, reuseOf(0, 2), intoOf(0, conTo(0, 1, 1, 2)), back(0)), []string{"[1 -1 -1 -1 -1 -1]", "[1 -1 -1 -1 -1 -1]", "[1 -1 -1 -1 -1 -1]", "[1 0 -1 -1 -1 -1]", "[1 0 1 -1 -1 -1]", "[1 0 1 -1 -1 -1]", "[1 0 1 -1 -1 -1]"}, []string{"[1 0 0 0 0 0]", "[1 0 0 0 0 0]", "[1 0 0 0 0 0]", "[1 0 0 0 0 0]", "[1 0 0 0 0 0]", "[0 0 1 0 0 0]", "[1 0 0 0 0 0]"}},
		// Where ways come together, and where none leads.
		{ways(true, []int{0, 1}, nil, 1, []impl.Instr{intTo(2, 1), intTo(3, 1)}, []impl.Instr{intTo(3, 2), conTo(4, 0), dropOf(4)}, back(1)), []string{"[0 1 -1 -1 -1 -1]", "[0 1 -1 -1 -1 -1]", "[0 1 0 -1 -1 -1]", "[0 1 0 0 -1 -1]", "[0 1 -1 -1 -1 -1]", "[0 1 -1 0 -1 -1]", "[0 1 -1 0 1 -1]", "[0 1 -1 0 -1 -1]"}, []string{"[0 1 0 0 0 0]", "[0 1 0 0 0 0]", "[0 1 0 0 0 0]", "[0 1 0 0 0 0]", "[0 1 0 0 0 0]", "[0 1 0 0 0 0]", "[0 1 0 0 1 0]", "[0 1 0 0 0 0]"}},
		{good(list, nil, 1, jump(2), back(5), back(0), back(0)), []string{"[1 -1 -1 -1 -1 -1]", "", "[1 -1 -1 -1 -1 -1]", ""}, []string{"[1 0 0 0 0 0]", "", "[1 0 0 0 0 0]", ""}},
		{good(list, nil, 1, jumping(1, 0, 1, 2), jumping(1, 0, 2, 3), back(0), back(0)), []string{"[1 -1 -1 -1 -1 -1]", "[1 -1 -1 -1 -1 -1]", "[1 -1 -1 -1 -1 -1]", ""}, []string{"[1 0 0 0 0 0]", "[1 0 0 0 0 0]", "[1 0 0 0 0 0]", ""}},
		{good(list, nil, 1, tailTo(2, 0), back(0)), []string{"[1 -1 -1 -1 -1 -1]", ""}, []string{"[1 0 0 0 0 0]", ""}},
	} {
		im := c.image()
		if c.types == nil {
			// An integer that is not known cannot be printed: nothing is known of any procedure then.
			knowsNothing(t, im)
			continue
		}
		for at := range c.code {
			types, owns := impl.TypesAt(im, 3, at), impl.OwnsAt(im, 3, at)
			if want := c.types[at]; text(types) != want && (want != "" || len(types) > 0) {
				t.Errorf("TypesAt %d of %s = %v, want %s", at, showCode(c.code), types, want)
			}
			if want := c.owns[at]; text(owns) != want && (want != "" || len(owns) > 0) {
				t.Errorf("OwnsAt %d of %s = %v, want %s", at, showCode(c.code), owns, want)
			}
		}
		for _, at := range []int{-1, len(c.code), -1 << 63, 1<<63 - 1} {
			if len(impl.TypesAt(im, 3, at)) > 0 || len(impl.OwnsAt(im, 3, at)) > 0 {
				t.Errorf("TypesAt or OwnsAt %d of %s is not empty", at, showCode(c.code))
			}
		}
	}
}

// knowsNothing tells if something is known of an image that is not verified.
func knowsNothing(t *testing.T, im impl.Image) {
	t.Helper()
	if impl.Verified(im) {
		t.Fatalf("Verified(%.300s) = true", text(im))
	}
	for f := -1; f <= len(im.Procs); f++ {
		for at := -1; at <= 2; at++ {
			if len(impl.TypesAt(im, f, at)) > 0 || len(impl.OwnsAt(im, f, at)) > 0 {
				t.Fatalf("TypesAt or OwnsAt(%.300s, %d, %d) is not empty", text(im), f, at)
			}
		}
	}
}

// A register whose type is not known after two ways is not known any more to be loaded from what is alive, though it was on both ways.
func TestRegistersOfUnknownTypes(t *testing.T) {
	image := func(other int) impl.Image {
		return impl.Image{Decls: append(lists(), dataOf([]int{0, 1}), dataOf([]int{1}, []int{other})), Procs: []impl.Proc{
			{Regs: 1, Code: []impl.Instr{intTo(0, 1), back(0)}},
			{Params: []int{3}, Lent: []int{0}, Result: 1, Regs: 4, Code: []impl.Instr{
				jumping(3, 0, 1, 5), load(1, 0, 0), jumping(1, 1, 10, 3), load(2, 1, 1), jump(8),
				load(1, 0, 0), {Op: impl.OpSwitch, Num: other, Args: []int{1}, Jumps: [][]int{{10, 7}, {7}}[other-1]}, load(2, 1, 1), dupOf(2), back(2),
				conTo(3, 0), back(3),
			}},
		}}
	}
	if im := image(1); !impl.Verified(im) || !verifies(im) || !same(impl.TypesAt(im, 1, 8), 3, 1, 1, -1) {
		t.Error("Verified of a field of a field that has one type = false")
	}
	if im := image(2); impl.Verified(im) || verifies(im) || !impl.ValidImage(im) {
		t.Error("Verified of a field of a field of unknown type = true")
	}
}

// bothWays tells if what is known of a valid image is not what the second way finds, and returns whether it is verified.
func bothWays(t *testing.T, im impl.Image) bool {
	t.Helper()
	all := true
	for f, p := range im.Procs {
		_, want := verifyMeaning(im, f)
		if impl.VerifiedProc(im, f) != want {
			t.Fatalf("VerifiedProc(%v, %d) = %v: %s", im, f, !want, showCode(p.Code))
		}
		all = all && want
	}
	if impl.Verified(im) != all {
		t.Fatalf("Verified(%v) = %v", im, !all)
	}
	return all
}

func TestVerifiedAgreesWithTheSecondWay(t *testing.T) {
	yes, no := 0, 0
	for _, list := range [][]impl.Image{images(), editedImages()} {
		for _, im := range list {
			if bothWays(t, im) {
				yes++
			} else {
				no++
			}
		}
	}
	m := maker{seed: 2501}
	for _, im := range images()[:3000] {
		if other := m.spoilt(im); impl.ValidImage(other) {
			if bothWays(t, other) {
				yes++
			} else {
				no++
			}
		}
	}
	if yes < 6000 || no < 4000 {
		t.Errorf("%d images are verified, and %d are not", yes, no)
	}
}

func TestTypesAndOwnersAgreeWithTheSecondWay(t *testing.T) {
	known, unknown := 0, 0
	for i, im := range verifiedImages() {
		if i%8 > 0 {
			continue
		}
		for f, p := range im.Procs {
			before, _ := verifyMeaning(im, f)
			for at := range p.Code {
				types, owns := impl.TypesAt(im, f, at), impl.OwnsAt(im, f, at)
				k, ok := before[at]
				if !ok {
					if unknown++; len(types)+len(owns) > 0 {
						t.Fatalf("TypesAt and OwnsAt(%v, %d, %d) = %v, %v", im, f, at, types, owns)
					}
					continue
				}
				known++
				if !same(types, numbersKnown(k.types, p.Regs, -1)...) || !same(owns, numbersKnown(k.owned, p.Regs, 0)...) {
					t.Fatalf("TypesAt and OwnsAt(%v, %d, %d) = %v, %v", im, f, at, types, owns)
				}
			}
		}
	}
	if known < 50000 || unknown < 500 {
		t.Errorf("something is known at %d places, and nothing at %d", known, unknown)
	}
}

func TestVerificationOfInvalidArguments(t *testing.T) {
	for _, im := range badImages() {
		for f := -1; f <= len(im.Procs); f++ {
			if impl.VerifiedProc(im, f) {
				t.Fatalf("VerifiedProc(%.300s, %d) = true", text(im), f)
			}
		}
		knowsNothing(t, im)
	}
	im := flattened(t, countedOf(t, normalOf(t, sumProgram())))
	for _, f := range []int{-1, 2, 3, 4, 1 << 62, -1 << 63} {
		if impl.VerifiedProc(im, f) || len(impl.TypesAt(im, f, 0)) > 0 || len(impl.OwnsAt(im, f, 0)) > 0 {
			t.Errorf("something is known of the procedure %d", f)
		}
	}
	// One procedure that is not verified is enough for nothing to be known of the others, but these are verified all the same.
	for f := range im.Procs {
		wrong := changedImage(im, func(im *impl.Image) {
			im.Procs[f].Code = append([]impl.Instr{dropOf(im.Procs[f].Regs - 1)}, back(0))
		})
		if !impl.ValidImage(wrong) || impl.VerifiedProc(wrong, f) || !impl.VerifiedProc(wrong, 1-f) {
			t.Errorf("VerifiedProc beside a wrong procedure %d", f)
		}
		knowsNothing(t, wrong)
	}
}

func TestVerificationOfTheExample(t *testing.T) {
	im := flattened(t, countedOf(t, normalOf(t, sumProgram())))
	want := []string{"[1 -1 -1 -1 -1]", "[1 -1 -1 -1 -1]", "[1 -1 -1 -1 -1]", "[1 0 -1 -1 -1]", "[1 0 -1 -1 -1]", "[1 -1 -1 -1 -1]", "[1 0 -1 -1 -1]", "[1 0 1 -1 -1]", "[1 0 1 -1 -1]", "[1 0 1 -1 -1]", "[1 0 1 0 -1]", "[1 0 1 0 0]", "[1 0 -1 -1 -1]"}
	owns := []string{"[1 0 0 0 0]", "[1 0 0 0 0]", "[0 0 0 0 0]", "[0 0 0 0 0]", "[0 0 0 0 0]", "[1 0 0 0 0]", "[1 0 0 0 0]", "[1 0 0 0 0]", "[1 0 1 0 0]", "[0 0 1 0 0]", "[0 0 0 0 0]", "[0 0 0 0 0]", "[0 0 0 0 0]"}
	for at := range want {
		if got, own := text(impl.TypesAt(im, 1, at)), text(impl.OwnsAt(im, 1, at)); got != want[at] || own != owns[at] {
			t.Errorf("TypesAt and OwnsAt %d = %s, %s, want %s, %s", at, got, own, want[at], owns[at])
		}
	}
}

// The longest code with the most registers must be verified in a short time, also where many ways are open at once.
func TestVerificationAtTheLimits(t *testing.T) {
	wide := imageOf(longCode(2000)...)
	branches := imageOf()
	for at := 0; at < 1999; at++ {
		branches.Procs[3].Code = append(branches.Procs[3].Code, branch(min(1999, at+1+at%900), 0))
	}
	branches.Procs[3].Code = append(branches.Procs[3].Code, back(1))
	// A walk down a list, in which each register is alive only by way of all those before it; where the list ends, all ways come together.
	chained := imageOf()
	code := []impl.Instr{jumping(1, 0, 1998, 1)}
	for r := 1; r < 998; r++ {
		code = append(code, load(r, 1, r-1), jumping(1, r, 1998, 2*r+1))
	}
	code = append(code, dupOf(997), jump(1997), back(997), dupOf(0), back(0))
	chained.Procs[3].Code = code
	for f := range wide.Procs {
		wide.Procs[f].Regs, branches.Procs[f].Regs, chained.Procs[f].Regs = 2000, 2000, 2000
	}
	branches.Procs[3].Params = []int{0, 1}
	chained.Procs[3].Params, chained.Procs[3].Lent = []int{1}, []int{0}
	wide.Procs[3].Params, wide.Procs[3].Lent = []int{1, 1}, []int{1}
	for _, im := range []impl.Image{wide, branches, chained} {
		if !impl.ValidImage(im) || !impl.Verified(im) {
			t.Errorf("Verified of %.200s = false", showCode(im.Procs[3].Code))
		}
		if last := len(im.Procs[3].Code) - 1; len(impl.TypesAt(im, 3, last)) != 2000 || len(impl.OwnsAt(im, 3, last)) != 2000 {
			t.Errorf("TypesAt the end of %.200s = %v", showCode(im.Procs[3].Code), impl.TypesAt(im, 3, last))
		}
	}
}

func TestP227VerifiedImagesHaveVerifiedProcedures(t *testing.T) {
	yes, some, none := 0, 0, 0
	for _, list := range [][]impl.Image{images(), editedImages()} {
		for _, im := range list {
			many := 0
			for f := range im.Procs {
				if impl.VerifiedProc(im, f) {
					many++
				}
			}
			if impl.Verified(im) != (many == len(im.Procs)) {
				t.Fatalf("Verified(%v) = %v, and VerifiedProc is true of %d", im, impl.Verified(im), many)
			}
			switch many {
			case len(im.Procs):
				yes++
			case 0:
				none++
			default:
				some++
			}
		}
	}
	if yes < 3000 || some < 3000 || none < 50 {
		t.Errorf("of %d images all procedures are verified, of %d some, and of %d none", yes, some, none)
	}
}

func TestP228VerifiedImagesDoNotFail(t *testing.T) {
	marks := make(map[int]int)
	for i, im := range verifiedImages() {
		for _, most := range []int{0, 1, 2 + i%38, 40} {
			o := ran(t, im, most)
			if o.Status == impl.Fault {
				t.Fatalf("Execute of the verified image %v with %d calls = %v", im, most, o)
			}
			marks[o.Status]++
		}
	}
	if marks[impl.Done] < 5000 || marks[impl.Spent] < 5000 {
		t.Errorf("%d runs end, and %d are cut off", marks[impl.Done], marks[impl.Spent])
	}
}

func TestP229BalancedFormsBecomeVerifiedImages(t *testing.T) {
	for _, n := range append(append([]impl.Normal{}, balancedVariants()...), keptForms(t)...) {
		if im := flattened(t, n); !impl.Verified(im) {
			t.Fatalf("Verified of Flatten(%v) = false: %v", n, im)
		}
	}
	for _, c := range flattenings() {
		if im := flattened(t, balancedRule(t, c.params, c.lent, c.b)); !impl.Verified(im) {
			t.Fatalf("Verified of Flatten of %s = false", show(c.b))
		}
	}
	for _, p := range listPrograms() {
		for _, n := range programForms(p) {
			if im := flattened(t, n); !impl.Verified(im) {
				t.Fatalf("Verified of Flatten(%v) = false", n)
			}
		}
	}
}

func TestP230TailCallsAreVerified(t *testing.T) {
	changed := 0
	for _, im := range verifiedImages() {
		tail := tailed(t, im)
		if !impl.Verified(tail) {
			t.Fatalf("Verified of TailCalls(%v) = false", im)
		}
		if countOps(tail, impl.OpTail) > countOps(im, impl.OpTail) {
			changed++
		}
	}
	if changed < 500 {
		t.Errorf("only %d images get tail calls", changed)
	}
}

func TestP231ParametersHaveTheirTypes(t *testing.T) {
	for _, im := range verifiedImages() {
		for f, p := range im.Procs {
			want := append([]int{}, p.Params...)
			for len(want) < p.Regs {
				want = append(want, -1)
			}
			if got := impl.TypesAt(im, f, 0); !same(got, want...) {
				t.Fatalf("TypesAt(%v, %d, 0) = %v", im, f, got)
			}
		}
	}
}

func TestP232OnlyReachedCodeIsKnown(t *testing.T) {
	unreached, chosen := 0, 0
	for i, im := range verifiedImages() {
		if i%8 != 1 {
			continue
		}
		for f, p := range im.Procs {
			reached := impl.ReachedCode(im, f)
			for at := range p.Code {
				types, owns := impl.TypesAt(im, f, at), impl.OwnsAt(im, f, at)
				if len(owns) != len(types) || len(types) != 0 && (len(types) != p.Regs || !has(reached, at)) {
					t.Fatalf("TypesAt and OwnsAt(%v, %d, %d) = %v, %v", im, f, at, types, owns)
				}
				if !has(reached, at) {
					unreached++
				} else if len(types) == 0 {
					chosen++
				}
			}
		}
	}
	if unreached < 300 || chosen < 100 {
		t.Errorf("%d instructions are not reached, and %d are not because of a constructor that is known", unreached, chosen)
	}
}

// eachVerifiedState calls a function for states of runs of verified images.
func eachVerifiedState(t *testing.T, check func(im impl.Image, s impl.State)) {
	t.Helper()
	states := 0
	for i, im := range verifiedImages() {
		if i%12 > 0 {
			continue
		}
		s, _ := impl.StartState(im, []int{40, 7, 0, 15}[i/12%4])
		for k := 0; k < 120 && s.Status == impl.Running; k++ {
			check(im, s)
			states++
			s, _ = impl.StepState(im, s)
		}
		for s.Status == impl.Running {
			check(im, s)
			states++
			s, _ = impl.RunState(im, s, 1+states%23)
		}
		check(im, s)
	}
	if states < 20000 {
		t.Errorf("there are only %d states", states)
	}
}

func TestP233RegistersHaveWhatIsKnownOfThem(t *testing.T) {
	integers, owned, closures := 0, 0, 0
	eachVerifiedState(t, func(im impl.Image, s impl.State) {
		if len(s.Frames) == 0 {
			return
		}
		f := s.Frames[len(s.Frames)-1]
		for r, of := range impl.TypesAt(im, f.Proc, f.At) {
			w := f.Regs[r]
			switch {
			case of == 0:
				if integers++; w < -999 || w > 999 {
					t.Fatalf("the register %d of %s should be an integer", r, showState(s))
				}
			case of > 0 && f.Own[r] > 0:
				tag := s.Heap[w-1000].Tag
				cons := impl.ConsOf(im.Decls, of)
				if len(cons) == 0 {
					closures++
				} else if owned++; !has(cons, tag) {
					t.Fatalf("the register %d of %s should have one of the constructors %v", r, showState(s), cons)
				}
			}
		}
	})
	if integers < 10000 || owned < 5000 || closures < 300 {
		t.Errorf("there are %d integers, %d owned values of data types, and %d closures", integers, owned, closures)
	}
}

func TestP234OwnershipIsKnownBeforeTheRun(t *testing.T) {
	frames, waiting := 0, 0
	eachVerifiedState(t, func(im impl.Image, s impl.State) {
		for k, f := range s.Frames {
			want := impl.OwnsAt(im, f.Proc, f.At)
			if frames++; len(want) != len(f.Own) {
				t.Fatalf("nothing is known of the frame %d of %s", k, showState(s))
			}
			for r, own := range f.Own {
				if k+1 < len(s.Frames) && s.Frames[k+1].Dst == r {
					if waiting++; own != 0 {
						t.Fatalf("the register %d of the frame %d of %s is owned", r, k, showState(s))
					}
				} else if own != want[r] {
					t.Fatalf("OwnsAt(%v, %d, %d) = %v, and the frame %d of %s owns %v", im, f.Proc, f.At, want, k, showState(s), f.Own)
				}
			}
		}
	})
	if frames < 50000 || waiting < 30000 {
		t.Errorf("there are %d frames, of which %d wait", frames, waiting)
	}
}

func TestP235OwnedParametersAreOwnedOnce(t *testing.T) {
	owned, lent := 0, 0
	for _, im := range verifiedImages() {
		for f, p := range im.Procs {
			want := make([]int, p.Regs)
			for v, of := range p.Params {
				if of != 0 && !has(p.Lent, v) {
					want[v] = 1
					owned++
				} else if of != 0 {
					lent++
				}
			}
			if got := impl.OwnsAt(im, f, 0); !same(got, want...) {
				t.Fatalf("OwnsAt(%v, %d, 0) = %v", im, f, got)
			}
		}
	}
	if owned < 1000 || lent < 1000 {
		t.Errorf("%d parameters are owned, and %d lent", owned, lent)
	}
}
