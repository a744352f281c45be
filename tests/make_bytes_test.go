package tests

import (
	"reflect"

	"loop.example/refcountml/impl"
)

// numbersOf returns the numbers of which the bytes of an image are made: those of its fields in the order in which they are declared, and before each list its length.
func numbersOf(x reflect.Value) []int {
	var out []int
	switch x.Kind() {
	case reflect.Int:
		return []int{int(x.Int())}
	case reflect.Slice:
		out = append(out, x.Len())
		for i := range x.Len() {
			out = append(out, numbersOf(x.Index(i))...)
		}
	case reflect.Struct:
		for i := range x.NumField() {
			out = append(out, numbersOf(x.Field(i))...)
		}
	}
	return out
}

// bytesOf returns the two bytes of each of some numbers.
func bytesOf(numbers []int) []int {
	var out []int
	for _, n := range numbers {
		two := uint16(n + 1<<15)
		out = append(out, int(two>>8), int(two&0xff))
	}
	return out
}

// encodeMeaning returns what EncodeImage should for a valid image.
func encodeMeaning(im impl.Image) []int {
	return bytesOf(numbersOf(reflect.ValueOf(im)))
}

// fill sets a value to what some numbers tell, and returns the rest of these; false if there are too few, or a length is less than 0.
func fill(x reflect.Value, numbers []int) ([]int, bool) {
	if x.Kind() == reflect.Struct {
		ok := true
		for i := 0; i < x.NumField() && ok; i++ {
			numbers, ok = fill(x.Field(i), numbers)
		}
		return numbers, ok
	}
	if len(numbers) == 0 {
		return nil, false
	}
	n := numbers[0]
	numbers = numbers[1:]
	if x.Kind() == reflect.Int {
		x.SetInt(int64(n))
		return numbers, true
	}
	ok := n >= 0
	for ; n > 0 && ok; n-- {
		one := reflect.New(x.Type().Elem()).Elem()
		numbers, ok = fill(one, numbers)
		x.Set(reflect.Append(x, one))
	}
	return numbers, ok
}

// decodeMeaning returns what DecodeImage should, and true; false if there is no such image.
func decodeMeaning(bytes []int) (impl.Image, bool) {
	if len(bytes)%2 > 0 {
		return impl.Image{}, false
	}
	var numbers []int
	for i, b := range bytes {
		if b < 0 || b > 255 {
			return impl.Image{}, false
		}
		if i%2 > 0 {
			numbers = append(numbers, bytes[i-1]<<8+b-1<<15)
		}
	}
	var im impl.Image
	rest, ok := fill(reflect.ValueOf(&im).Elem(), numbers)
	if !ok || len(rest) > 0 || !imageFits(im) {
		return impl.Image{}, false
	}
	return im, true
}

// spoiltBytes returns bytes of their own with a change.
func (m *maker) spoiltBytes(bytes []int) []int {
	out := append([]int{}, bytes...)
	at := m.pick(len(out))
	number := at - at%2
	switch m.pick(9) {
	case 0:
		out[at] = m.pickOf([]int{-1, 256, 0, 255, 127, 128, 1 << 62, -1 << 63})
	case 1:
		out[at] += m.pick(3) - 1
	case 2:
		return out[:at]
	case 3:
		return append(out, m.pick(256))
	case 4:
		return append(out, 128, m.pick(3))
	case 5:
		// A number more, or one less.
		return append(out[:number], out[number+2:]...)
	case 6:
		return append(append(append([]int{}, out[:number]...), 128, m.pick(4)), out[number:]...)
	case 7:
		out[number], out[number+1] = m.pickOf([]int{0, 127, 128, 255}), m.pickOf([]int{0, 1, 2, 255})
	case 8:
		// The byte 256 more, and the higher one 1 less, would be the same number.
		out[number+1] += 256
		out[number]--
	}
	return out
}
