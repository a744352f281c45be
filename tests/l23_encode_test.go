package tests

import (
	"testing"

	"loop.example/refcountml/impl"
)

// failsToDecode tells if DecodeImage finds an image that it should not.
func failsToDecode(t *testing.T, what string, bytes []int) {
	t.Helper()
	if im, ok := impl.DecodeImage(bytes); ok || text(im) != text(impl.Image{}) {
		t.Fatalf("DecodeImage of %s, %.300s, = %v, %v", what, text(bytes), im, ok)
	}
}

// decoded returns the image of some bytes.
func decoded(t *testing.T, bytes []int) impl.Image {
	t.Helper()
	im, ok := impl.DecodeImage(bytes)
	if !ok {
		t.Fatalf("DecodeImage(%.300s) fails", text(bytes))
	}
	return im
}

// smallImage returns an image in which numbers below 0 and all lists have their places.
func smallImage() impl.Image {
	return impl.Image{Decls: append(lists(), arrow(0, 1)), Procs: []impl.Proc{
		{Regs: 2, Code: []impl.Instr{to(1, impl.OpInt, -999), back(1)}},
		{Params: []int{0, 1}, Lent: []int{1}, Result: 1, Regs: 300, Code: []impl.Instr{jumping(1, 1, 1, 2), intoOf(255, conTo(299, 1, 0, 1)), back(256)}},
	}}
}

func TestEncodeOfTheRules(t *testing.T) {
	want := []int{
		// The list Decls: From, To and the list of Cons, each of these as the list of its Fields.
		128, 2, 128, 0, 128, 0, 128, 2, 128, 0, 128, 2, 128, 0, 128, 1, 128, 0, 128, 1, 128, 0,
		// The list of procedures, and the first one with Params, Lent, Result, Regs and Code.
		128, 2, 128, 0, 128, 0, 128, 0, 128, 2, 128, 2,
		128, 0, 128, 1, 124, 25, 128, 0, 128, 0, 128, 0,
		128, 23, 128, 0, 128, 0, 128, 0, 128, 1, 128, 1, 128, 0,
		// The second one, with numbers that need both bytes.
		128, 2, 128, 0, 128, 1, 128, 1, 128, 1, 128, 1, 129, 44, 128, 3,
		128, 21, 128, 0, 128, 1, 128, 0, 128, 1, 128, 1, 128, 2, 128, 1, 128, 2,
		128, 6, 129, 43, 128, 1, 129, 0, 128, 2, 128, 0, 128, 1, 128, 0,
		128, 23, 128, 0, 128, 0, 128, 0, 128, 1, 129, 0, 128, 0,
	}
	im := smallImage()
	if got := impl.EncodeImage(im); text(got) != text(want) || text(encodeMeaning(im)) != text(want) {
		t.Errorf("EncodeImage = %v, want %v", got, want)
	}
	if impl.EncodedLength(im) != len(want) || text(decoded(t, want)) != text(im) {
		t.Errorf("EncodedLength = %d, and DecodeImage = %v", impl.EncodedLength(im), decoded(t, want))
	}
	least := impl.Image{Procs: []impl.Proc{{Regs: 1, Code: []impl.Instr{back(0)}}}}
	if got := impl.EncodeImage(least); !same(got, 128, 0, 128, 1, 128, 0, 128, 0, 128, 0, 128, 1, 128, 1, 128, 23, 128, 0, 128, 0, 128, 0, 128, 1, 128, 0, 128, 0) {
		t.Errorf("EncodeImage = %v", got)
	}
}

// Each number of an image is written at its place, whatever it is.
func TestEachNumberIsEncoded(t *testing.T) {
	im := smallImage()
	bytes := impl.EncodeImage(im)
	for _, change := range []func(im *impl.Image){
		func(im *impl.Image) { im.Decls[1].From = 1 }, func(im *impl.Image) { im.Decls[1].To = 2 }, func(im *impl.Image) { im.Decls[0].Cons[1].Fields[0] = 2 },
		func(im *impl.Image) { im.Procs[1].Params[0] = 2 }, func(im *impl.Image) { im.Procs[1].Lent = nil }, func(im *impl.Image) { im.Procs[1].Result = 2 }, func(im *impl.Image) { im.Procs[1].Regs = 2000 }, func(im *impl.Image) { im.Procs[0].Code[0] = conTo(1, 0) },
		func(im *impl.Image) { im.Procs[0].Code[0].Dst = 0 }, func(im *impl.Image) { im.Procs[0].Code[0].Num = 999 }, func(im *impl.Image) { im.Procs[1].Code[1].Into = 0 }, func(im *impl.Image) { im.Procs[1].Code[1].Args[1] = 298 }, func(im *impl.Image) { im.Procs[1].Code[0].Jumps[0] = 2 },
	} {
		other := changedImage(im, change)
		got := impl.EncodeImage(other)
		if len(got) == 0 || text(got) == text(bytes) || text(got) != text(encodeMeaning(other)) || text(decoded(t, got)) != text(other) {
			t.Errorf("EncodeImage(%v) = %v", other, got)
		}
	}
}

func TestDecodeOfTheRules(t *testing.T) {
	im := smallImage()
	bytes := impl.EncodeImage(im)
	for at := range bytes {
		for _, b := range []int{-1, 256, bytes[at] + 256, bytes[at] - 256, 1 << 62, -1 << 63} {
			wrong := append([]int{}, bytes...)
			wrong[at] = b
			failsToDecode(t, "a byte that is none", wrong)
		}
		failsToDecode(t, "bytes that end too early", bytes[:at])
		failsToDecode(t, "bytes that begin too late", bytes[at+1:])
	}
	for b := 0; b < 256; b++ {
		failsToDecode(t, "a byte too many", append(append([]int{}, bytes...), b))
		failsToDecode(t, "two bytes too many", append(append([]int{}, bytes...), 128, b))
		failsToDecode(t, "one byte", []int{b})
		failsToDecode(t, "two bytes", []int{128, b})
		failsToDecode(t, "two bytes before others", append([]int{128, b}, bytes...))
	}
	// Lists that are longer than the bytes, or whose length is less than 0, at each place.
	for at := 0; at < len(bytes); at += 2 {
		for _, high := range []int{0, 127, 129, 255} {
			wrong := append([]int{}, bytes...)
			wrong[at], wrong[at+1] = high, 255
			if want, ok := decodeMeaning(wrong); !ok {
				failsToDecode(t, "a number that is far too large or too small", wrong)
			} else if got := decoded(t, wrong); text(got) != text(want) {
				t.Errorf("DecodeImage(%v) = %v, want %v", wrong, got, want)
			}
		}
	}
	// The image that is read must be valid.
	for _, x := range []impl.Instr{back(2), back(-1), in(impl.OpIf, 0, 0), tailTo(5), conTo(0, 9), move(0, 0)} {
		failsToDecode(t, "an image that is not valid", encodeMeaning(withInstr(im, 0, 1, x)))
	}
	failsToDecode(t, "nothing", nil)
	failsToDecode(t, "no procedures", []int{128, 0, 128, 0})
	failsToDecode(t, "zeros", make([]int, 1000))
	failsToDecode(t, "many zeros", make([]int, 100001))
	var empty []int
	for range 40000 {
		empty = append(empty, 128, 0)
	}
	empty[0], empty[1] = 255, 255
	failsToDecode(t, "as many declarations as can be written", empty)
}

func TestEncodingOfInvalidImages(t *testing.T) {
	for _, im := range badImages() {
		if bytes := impl.EncodeImage(im); len(bytes) > 0 || impl.EncodedLength(im) != -1 {
			t.Fatalf("EncodeImage(%.200s) = %v, and EncodedLength = %d", text(im), bytes, impl.EncodedLength(im))
		}
	}
}

func TestDecodeAgreesWithTheSecondWay(t *testing.T) {
	m := maker{seed: 2301}
	found, none := 0, 0
	for _, im := range images() {
		bytes := impl.EncodeImage(im)
		for try := 0; try < 6; try++ {
			other := m.spoiltBytes(bytes)
			want, ok := decodeMeaning(other)
			if !ok {
				none++
				failsToDecode(t, "spoilt bytes", other)
				continue
			}
			found++
			if got := decoded(t, other); text(got) != text(want) || text(impl.EncodeImage(got)) != text(other) {
				t.Fatalf("DecodeImage(%v) = %v, want %v", other, got, want)
			}
		}
	}
	if found < 500 || none < 5000 {
		t.Errorf("%d times there is an image, and %d times there is none", found, none)
	}
}

func TestEncodingAtTheLimits(t *testing.T) {
	im := imageOf(longCode(2000)...)
	for f := range im.Procs {
		im.Procs[f].Regs = 2000
	}
	bytes := impl.EncodeImage(im)
	if len(bytes) != impl.EncodedLength(im) || text(decoded(t, bytes)) != text(im) {
		t.Errorf("EncodeImage of the longest code has %d bytes", len(bytes))
	}
	for _, n := range []int{-999, -1, 0, 1, 255, 256, 257, 999} {
		one := withInstr(smallImage(), 0, 0, to(0, impl.OpInt, n))
		if got := decoded(t, impl.EncodeImage(one)).Procs[0].Code[0].Num; got != n {
			t.Errorf("the number %d is read back as %d", n, got)
		}
	}
}

func TestP216ImagesAreReadBack(t *testing.T) {
	for _, im := range images() {
		bytes := impl.EncodeImage(im)
		for _, b := range bytes {
			if b < 0 || b > 255 {
				t.Fatalf("EncodeImage(%v) has %d", im, b)
			}
		}
		if text(decoded(t, bytes)) != text(im) {
			t.Fatalf("DecodeImage of EncodeImage(%v) = %v", im, decoded(t, bytes))
		}
	}
}

func TestP217BytesAreWrittenBack(t *testing.T) {
	for _, im := range images() {
		bytes := encodeMeaning(im)
		back := decoded(t, bytes)
		if !impl.ValidImage(back) || text(impl.EncodeImage(back)) != text(bytes) {
			t.Fatalf("EncodeImage of DecodeImage(%v) = %v", bytes, impl.EncodeImage(back))
		}
	}
}

func TestP218BytesAreReadWhole(t *testing.T) {
	for i, im := range images() {
		bytes := impl.EncodeImage(im)
		failsToDecode(t, "bytes with one more", append(append([]int{}, bytes...), i%256))
		failsToDecode(t, "bytes without the last one", bytes[:len(bytes)-1])
		failsToDecode(t, "bytes without the last two", bytes[:len(bytes)-2])
	}
}

func TestP219NumbersAreTwoBytes(t *testing.T) {
	for _, im := range images() {
		many := impl.EncodedLength(im)
		if many != len(impl.EncodeImage(im)) || many%2 != 0 || many != len(encodeMeaning(im)) {
			t.Fatalf("EncodedLength(%v) = %d", im, many)
		}
	}
}

func TestP220TailCallsAreEncodedAlike(t *testing.T) {
	changed := 0
	for _, im := range images() {
		tail := tailed(t, im)
		if impl.EncodedLength(tail) != impl.EncodedLength(im) {
			t.Fatalf("EncodedLength of TailCalls(%v) = %d", im, impl.EncodedLength(tail))
		}
		if text(tail) != text(im) {
			changed++
		}
	}
	if changed < 300 {
		t.Errorf("only %d images have other tail calls", changed)
	}
}
