package xorval

import (
	"bytes"
	"fmt"
	"math"
	"math/rand"
	"slices"
	"strconv"
	"strings"
	"sync"
	"testing"

	"tsblock/api"
	"tsblock/bitio"
)

const allOnes = math.MaxUint64

// encodings are lists of values with their encodings, written out by hand.
var encodings = []struct {
	l    []uint64
	bits string
}{
	{nil, ""},
	{[]uint64{0}, zeros(64)},
	{[]uint64{allOnes}, ones(64)},
	{[]uint64{5}, zeros(61) + "101"},
	{[]uint64{1 << 63}, "1" + zeros(63)},
	{[]uint64{1, 1, 3}, zeros(63) + "1" + "0" + "11" + "111110" + "000000" + "1"},
	// Repeated values, before there is a window and after.
	{[]uint64{0, 0}, zeros(64) + "0"},
	{[]uint64{9, 9, 9, 9}, zeros(60) + "1001" + "000"},
	{[]uint64{0, 1, 1, 1, 0}, zeros(64) + "11" + "111111" + "000000" + "1" + "0" + "0" + "10" + "1"},
	// Windows with the width 1, at the lowest bit, at the highest one, and between.
	{[]uint64{0, 1}, zeros(64) + "11" + "111111" + "000000" + "1"},
	{[]uint64{0, 1 << 63}, zeros(64) + "11" + "000000" + "000000" + "1"},
	{[]uint64{0, 16}, zeros(64) + "11" + "111011" + "000000" + "1"},
	// A window with the width 64 fits every word that follows.
	{[]uint64{0, allOnes}, zeros(64) + "11" + "000000" + "111111" + ones(64)},
	{[]uint64{0, 1<<63 + 1, 1 << 63, 0}, zeros(64) + "11" + "000000" + "111111" + "1" + zeros(62) + "1" +
		"10" + zeros(63) + "1" + "10" + "1" + zeros(63)},
	// Windows with the width 63, at both ends.
	{[]uint64{0, allOnes - 1}, zeros(64) + "11" + "000000" + "111110" + ones(63)},
	{[]uint64{0, math.MaxInt64}, zeros(64) + "11" + "000001" + "111110" + ones(63)},
	// The word 0b0110 fits the window of 0b1111 and does not narrow it; 0b1001 fits it then.
	{[]uint64{0, 0b1111, 0b1001, 0}, zeros(64) + "11" + "111100" + "000011" + "1111" + "10" + "0110" + "10" + "1001"},
	// The word 0b10000 is left of the window of 0b1110, and 0b1 right of it.
	{[]uint64{0, 0b1110, 0b11110}, zeros(64) + "11" + "111100" + "000010" + "111" + "11" + "111011" + "000000" + "1"},
	{[]uint64{0, 0b1110, 0b1111}, zeros(64) + "11" + "111100" + "000010" + "111" + "11" + "111111" + "000000" + "1"},
	// The last window is the current one, not one before it.
	{[]uint64{0, 2, 3, 1}, zeros(64) + "11" + "111110" + "000000" + "1" + "11" + "111111" + "000000" + "1" +
		"11" + "111110" + "000000" + "1"},
}

// someWords are words whose windows touch both ends, one of them, or none.
var someWords = []uint64{
	0, 1, 2, 3, 6, 1 << 63, 1<<63 + 1, 3 << 62, 1 << 62, 1 << 31, 1 << 32, 3 << 31, 0xff << 28, allOnes, allOnes - 1,
	math.MaxInt64, math.MaxInt64 - 1, 0x0123456789abcdef, 0xaaaaaaaaaaaaaaaa, 0x5555555555555555, 0x00ffffffffffff00,
}

func zeros(n int) string { return strings.Repeat("0", n) }

func ones(n int) string { return strings.Repeat("1", n) }

// binary returns a number with n binary digits.
func binary(x uint64, n int) string { return fmt.Sprintf("%0*b", n, x) }

// number returns the number with some binary digits.
func number(digits string) uint64 {
	x, err := strconv.ParseUint("0"+digits, 2, 64)
	if err != nil {
		panic(err)
	}
	return x
}

// difference returns the digits of the exclusive or of two words.
func difference(a, b uint64) string {
	s, t := binary(a, 64), binary(b, 64)
	var x strings.Builder
	for i := range s {
		if s[i] == t[i] {
			x.WriteByte('0')
		} else {
			x.WriteByte('1')
		}
	}
	return x.String()
}

// reference returns the encoding of values as binary digits. The window is that of the digits start to end.
func reference(l []uint64) string {
	var s strings.Builder
	hasWindow, start, end := false, 0, 0
	for i, value := range l {
		if i == 0 {
			s.WriteString(binary(value, 64))
			continue
		}
		x := difference(l[i-1], value)
		switch {
		case !strings.Contains(x, "1"):
			s.WriteString("0")
		case hasWindow && !strings.Contains(x[:start]+x[end:], "1"):
			s.WriteString("10" + x[start:end])
		default:
			hasWindow, start, end = true, strings.Index(x, "1"), strings.LastIndex(x, "1")+1
			s.WriteString(newWindow(start, end-start) + x[start:end])
		}
	}
	return s.String()
}

// newWindow returns the bits before those inside a new window.
func newWindow(leading, width int) string {
	return "11" + binary(uint64(leading), 6) + binary(uint64(width-1), 6)
}

// referenceGet reads n values from binary digits part by part. Whether the encoding of a value would be another one
// is found by encoding all values again. It returns the digits that remain.
func referenceGet(digits string, n int) ([]uint64, api.Errno, string) {
	if n == 0 {
		return nil, api.OK, digits
	}
	rest := digits
	take := func(size int) (string, bool) {
		if size > len(rest) {
			return "", false
		}
		part := rest[:size]
		rest = rest[size:]
		return part, true
	}
	first, ok := take(64)
	if !ok {
		return nil, api.ErrEOF, rest
	}
	l := []uint64{number(first)}
	hasWindow, start, end := false, 0, 0
	for len(l) < n {
		x := zeros(64)
		mark, ok := take(1)
		if !ok {
			return nil, api.ErrEOF, rest
		}
		if mark == "1" {
			if mark, ok = take(1); !ok {
				return nil, api.ErrEOF, rest
			}
			if mark == "0" && !hasWindow {
				return nil, api.ErrCanonical, rest
			}
			if mark == "1" {
				leading, ok := take(6)
				if !ok {
					return nil, api.ErrEOF, rest
				}
				width, ok := take(6)
				if !ok {
					return nil, api.ErrEOF, rest
				}
				hasWindow, start = true, int(number(leading))
				end = start + int(number(width)) + 1
				if end > 64 {
					return nil, api.ErrCanonical, rest
				}
			}
			inside, ok := take(end - start)
			if !ok {
				return nil, api.ErrEOF, rest
			}
			x = zeros(start) + inside + zeros(64-end)
		}
		l = append(l, number(difference(l[len(l)-1], number(x))))
		if reference(l) != digits[:len(digits)-len(rest)] {
			return nil, api.ErrCanonical, rest
		}
	}
	return l, api.OK, rest
}

// written returns what Put writes, after some bits that it must keep.
func written(t *testing.T, before string, l []uint64) string {
	t.Helper()
	w := writerOf(before)
	kept := slices.Clone(l)
	if e := Put(w, l); e != api.OK {
		t.Fatalf("Put of %x returns %v", l, e)
	}
	if !slices.Equal(l, kept) {
		t.Errorf("Put has changed %x to %x", kept, l)
	}
	digits := digitsOf(w)
	if !strings.HasPrefix(digits, before) {
		t.Fatalf("Put of %x has changed the bits %s to %s", l, before, digits)
	}
	return digits[len(before):]
}

func writerOf(digits string) *bitio.Writer {
	w := bitio.NewWriter()
	for _, c := range digits {
		w.Bits(uint64(c-'0'), 1)
	}
	return w
}

func digitsOf(w *bitio.Writer) string { return bitsOf(w.Bytes())[:w.Len()] }

func bitsOf(b []byte) string {
	var s strings.Builder
	for _, c := range b {
		s.WriteString(binary(uint64(c), 8))
	}
	return s.String()
}

// readerAt returns a reader that has the digits left, and nothing else.
func readerAt(digits string) *bitio.Reader {
	skip := (8 - len(digits)%8) % 8
	r := bitio.NewReader(writerOf(ones(skip) + digits).Bytes())
	r.Bits(skip)
	return r
}

// expectGet checks all that Get does.
func expectGet(t *testing.T, digits string, n int, want []uint64, wantError api.Errno, rest string) {
	t.Helper()
	r := readerAt(digits)
	l, e := Get(r, n)
	if e != wantError || !slices.Equal(l, want) {
		t.Errorf("Get of %d values from %s returns %x and %v, want %x and %v", n, digits, l, e, want, wantError)
	}
	expectRest(t, r, rest)
}

// expectRead checks that Get reads values and leaves exactly the rest.
func expectRead(t *testing.T, digits string, n int, want []uint64, rest string) {
	t.Helper()
	expectGet(t, digits, n, want, api.OK, rest)
}

// expectError checks that Get returns an error alone and leaves exactly the rest.
func expectError(t *testing.T, digits string, n int, want api.Errno, rest string) {
	t.Helper()
	expectGet(t, digits, n, nil, want, rest)
}

func expectRest(t *testing.T, r *bitio.Reader, want string) {
	t.Helper()
	var s strings.Builder
	for r.Left() > 0 {
		x, _ := r.Bits(1)
		s.WriteByte('0' + byte(x))
	}
	if s.String() != want {
		t.Errorf("the bits %q remain, want %q", s.String(), want)
	}
}

// lists returns lists of values of many lengths: floats, counters, values that differ in few bits, and any values.
func lists() [][]uint64 {
	source := rand.New(rand.NewSource(6))
	var all [][]uint64
	for n := range 130 {
		var floats, counters, near, wild []uint64
		gauge, count, value := source.Float64(), source.Uint64(), source.Uint64()
		for range n {
			gauge += math.Round(source.NormFloat64()*4) / 4
			count += uint64(source.Intn(3))
			value ^= source.Uint64() >> source.Intn(64) << source.Intn(64)
			floats = append(floats, math.Float64bits(gauge))
			counters = append(counters, count)
			near = append(near, value)
			wild = append(wild, source.Uint64())
		}
		all = append(all, floats, counters, near, wild)
	}
	for _, x := range someWords {
		all = append(all, []uint64{x})
		for _, y := range someWords {
			all = append(all, []uint64{x, y}, []uint64{7, 7 ^ x, 7 ^ x ^ y}, []uint64{0, x, x, x ^ y, x})
		}
	}
	return all
}

// P6.1

func TestPutWritesEncoding(t *testing.T) {
	for _, c := range encodings {
		if got := written(t, "", c.l); got != c.bits {
			t.Errorf("Put of %x writes %s, want %s", c.l, got, c.bits)
		}
		if got := reference(c.l); got != c.bits {
			t.Errorf("the reference of %x is %s, want %s", c.l, got, c.bits)
		}
		if got := Size(c.l); got != len(c.bits) {
			t.Errorf("Size of %x is %d, want %d", c.l, got, len(c.bits))
		}
	}
}

func TestExampleTakes80Bits(t *testing.T) {
	l := []uint64{1, 1, 3}
	if n := Size(l); n != 80 {
		t.Errorf("Size is %d", n)
	}
	if got := written(t, "", l); len(got) != 80 {
		t.Errorf("Put writes %d bits", len(got))
	}
}

func TestPutEqualsReference(t *testing.T) {
	for i, l := range lists() {
		before := strings.Repeat("101", i%9)
		want := reference(l)
		if got := written(t, before, l); got != want {
			t.Errorf("Put of %x writes %s, want %s", l, got, want)
		}
		if got := Size(l); got != len(want) {
			t.Errorf("Size of %x is %d, want %d", l, got, len(want))
		}
	}
}

// eachWindow calls a function for every window.
func eachWindow(use func(leading, width int)) {
	for leading := range 64 {
		for width := 1; leading+width <= 64; width++ {
			use(leading, width)
		}
	}
}

// wordOf returns the word with some digits inside a window.
func wordOf(leading int, inside string) uint64 {
	return number(zeros(leading) + inside + zeros(64-leading-len(inside)))
}

func TestEveryWindow(t *testing.T) {
	first := uint64(0x0123456789abcdef)
	eachWindow(func(leading, width int) {
		inside := ones(width)
		if width > 2 {
			inside = "1" + zeros(width-2) + "1"
		}
		x := wordOf(leading, inside)
		l := []uint64{first, first ^ x, first}
		want := binary(first, 64) + newWindow(leading, width) + inside + "10" + inside
		if got := written(t, "", l); got != want || Size(l) != len(want) {
			t.Fatalf("Put of %x writes %s, Size is %d; want %s", l, got, Size(l), want)
		}
		expectRead(t, want+"01", 3, l, "01")
	})
}

// A single bit fits a window if it lies inside, up to both bounds.
func TestBoundsOfWindows(t *testing.T) {
	eachWindow(func(leading, width int) {
		for _, place := range []int{leading - 1, leading, leading + width/2, leading + width - 1, leading + width} {
			if place < 0 || place > 63 {
				continue
			}
			x := wordOf(place, "1")
			l := []uint64{0, wordOf(leading, ones(width)), 0}
			l[2] = l[1] ^ x
			want := zeros(64) + newWindow(leading, width) + ones(width)
			if place < leading || place >= leading+width {
				want += newWindow(place, 1) + "1"
			} else {
				want += "10" + zeros(place-leading) + "1" + zeros(leading+width-1-place)
			}
			if got := written(t, "", l); got != want || Size(l) != len(want) {
				t.Fatalf("Put of %x writes %s, Size is %d; want %s", l, got, Size(l), want)
			}
			expectRead(t, want, 3, l, "")
		}
	})
}

func TestEmptyListIsNothing(t *testing.T) {
	for _, l := range [][]uint64{nil, {}} {
		if got := written(t, "101", l); got != "" {
			t.Errorf("Put of an empty list writes %s", got)
		}
		if Size(l) != 0 {
			t.Errorf("Size of an empty list is %d", Size(l))
		}
	}
}

func TestPutWithoutWriter(t *testing.T) {
	for _, l := range [][]uint64{nil, {}, {1}, {1, 2, 3}} {
		if e := Put(nil, l); e != api.ErrNil {
			t.Errorf("Put of %x to a nil writer returns %v", l, e)
		}
	}
}

// A list begins without a window and with all bits of its first value, also after another list.
func TestPutAfterPut(t *testing.T) {
	w := bitio.NewWriter()
	want := ""
	for _, c := range encodings {
		if e := Put(w, c.l); e != api.OK {
			t.Fatalf("Put returns %v", e)
		}
		want += c.bits
		if got := digitsOf(w); got != want {
			t.Fatalf("%s is written, want %s", got, want)
		}
	}
}

func TestWithinLength(t *testing.T) {
	memory := []uint64{1, 1, 3, 7, 1 << 63, 0}
	for n := range len(memory) + 1 {
		want := reference(slices.Clone(memory[:n]))
		if got := written(t, "", memory[:n]); got != want || Size(memory[:n]) != len(want) {
			t.Errorf("Put of %x writes %s, Size is %d; want %s", memory[:n], got, Size(memory[:n]), want)
		}
	}
	if !slices.Equal(memory, []uint64{1, 1, 3, 7, 1 << 63, 0}) {
		t.Errorf("the memory is changed to %x", memory)
	}
}

// P6.2

func TestGetReadsEncodings(t *testing.T) {
	for _, c := range encodings {
		for _, rest := range []string{"", "0", "1", ones(70), zeros(70)} {
			expectRead(t, c.bits+rest, len(c.l), c.l, rest)
		}
	}
}

func TestGetReadsFewerValues(t *testing.T) {
	l := []uint64{1, 1, 3, 7, 5, 1 << 63, 1 << 63, 0}
	all := reference(l)
	for n := range len(l) + 1 {
		expectRead(t, all, n, l[:n], all[len(reference(l[:n])):])
	}
}

func TestGetOfNothing(t *testing.T) {
	for _, digits := range []string{"", "1", zeros(64), ones(100)} {
		expectRead(t, digits, 0, nil, digits)
	}
}

func TestGetWithoutReader(t *testing.T) {
	for _, n := range []int{0, 1, 2, -1, math.MinInt, math.MaxInt} {
		if l, e := Get(nil, n); len(l) != 0 || e != api.ErrNil {
			t.Errorf("Get of %d values from a nil reader returns %x and %v", n, l, e)
		}
	}
}

func TestGetOfNegativeNumber(t *testing.T) {
	for _, n := range []int{-1, -2, -64, math.MinInt, math.MinInt + 1} {
		for _, digits := range []string{"", "1", zeros(64), ones(100)} {
			expectError(t, digits, n, api.ErrArg, digits)
		}
	}
}

// A part that does not fit is not read; the parts before it are.
func TestGetOfCutEncodings(t *testing.T) {
	for _, c := range []struct {
		l     []uint64
		parts []int // the numbers of bits that are read at a time
	}{
		{[]uint64{7}, []int{64}},
		{[]uint64{0, 0}, []int{64, 1}},
		{[]uint64{1, 1, 3}, []int{64, 1, 1, 1, 6, 6, 1}},
		{[]uint64{0, allOnes}, []int{64, 1, 1, 6, 6, 64}},
		{[]uint64{0, 0xff, 0x0f, 0x0f, 0x0e}, []int{64, 1, 1, 6, 6, 8, 1, 1, 8, 1, 1, 1, 8}},
		{[]uint64{0, 1<<63 + 1, 0, 5}, []int{64, 1, 1, 6, 6, 64, 1, 1, 64, 1, 1, 64}},
		{[]uint64{0, 6, 7, 7 + 256}, []int{64, 1, 1, 6, 6, 2, 1, 1, 6, 6, 1, 1, 1, 6, 6, 1}},
	} {
		digits := reference(c.l)
		total := 0
		for _, size := range c.parts {
			for cut := total; cut < total+size; cut++ {
				expectError(t, digits[:cut], len(c.l), api.ErrEOF, digits[total:cut])
			}
			total += size
		}
		if total != len(digits) {
			t.Fatalf("the parts of %x have %d bits, want %d", c.l, total, len(digits))
		}
		expectRead(t, digits, len(c.l), c.l, "")
	}
}

func TestGetOfTooManyValues(t *testing.T) {
	for _, c := range encodings[1:] {
		expectError(t, c.bits, len(c.l)+1, api.ErrEOF, "")
	}
	for _, n := range []int{1 << 31, math.MaxInt, math.MaxInt - 1} {
		expectError(t, "", n, api.ErrEOF, "")
		expectError(t, ones(63), n, api.ErrEOF, ones(63))
		expectError(t, zeros(2000), n, api.ErrEOF, "")
	}
}

// The error is returned before the bits inside the window would be read.
func TestGetRejectsMissingWindow(t *testing.T) {
	for _, before := range []string{zeros(64), ones(64), zeros(64) + "0", ones(64) + "0000"} {
		n := len(before) - 64 + 2
		for _, rest := range []string{"", "0", "1", ones(100), zeros(100)} {
			expectError(t, before+"10"+rest, n, api.ErrCanonical, rest)
			expectError(t, before+"10"+rest, n+1, api.ErrCanonical, rest)
		}
		expectError(t, before+"1", n, api.ErrEOF, "")
	}
}

// A window of a list that was read before is not that of the next list.
func TestGetForgetsWindow(t *testing.T) {
	l := []uint64{0, 0xff, 0}
	r := readerAt(reference(l) + zeros(64) + "10" + ones(8))
	if got, e := Get(r, 3); e != api.OK || !slices.Equal(got, l) {
		t.Errorf("Get returns %x and %v, want %x", got, e, l)
	}
	if got, e := Get(r, 2); e != api.ErrCanonical || len(got) != 0 {
		t.Errorf("Get returns %x and %v", got, e)
	}
	expectRest(t, r, ones(8))
}

// All leading bits and widths: those that are more than 64 together are rejected before bits inside are read.
func TestGetRejectsTooWideWindows(t *testing.T) {
	for leading := range 64 {
		for width := 1; width <= 64; width++ {
			head := zeros(64) + newWindow(leading, width)
			if leading+width > 64 {
				for _, rest := range []string{"", "1", ones(64)} {
					expectError(t, head+rest, 2, api.ErrCanonical, rest)
				}
				expectError(t, head[:len(head)-1], 2, api.ErrEOF, head[len(head)-6:len(head)-1])
				continue
			}
			expectError(t, head+ones(width-1), 2, api.ErrEOF, ones(width-1))
			expectRead(t, head+ones(width)+"1", 2, []uint64{0, wordOf(leading, ones(width))}, "1")
		}
	}
}

// The word has more leading or trailing zeros than the window, or is 0; the error comes after the bits inside.
func TestGetRejectsOtherWindows(t *testing.T) {
	eachWindow(func(leading, width int) {
		head := zeros(64) + newWindow(leading, width)
		for _, inside := range []string{zeros(width), "0" + ones(width-1), ones(width-1) + "0"} {
			expectError(t, head+inside+"101", 2, api.ErrCanonical, "101")
			expectError(t, head+inside+"101", 3, api.ErrCanonical, "101")
			expectError(t, head+inside[1:], 2, api.ErrEOF, inside[1:])
		}
	})
}

// The word 0 has the bit 0, also where there is a window.
func TestGetRejectsZeroInWindow(t *testing.T) {
	eachWindow(func(leading, width int) {
		head := zeros(64) + newWindow(leading, width) + ones(width)
		expectError(t, head+"10"+zeros(width)+"1", 3, api.ErrCanonical, "1")
		expectError(t, head+"0"+"10"+zeros(width)+"1", 4, api.ErrCanonical, "1")
		expectError(t, head+"11"+"000000"+"000000"+"0"+"1", 3, api.ErrCanonical, "1")
		expectError(t, head+"10"+zeros(width-1), 3, api.ErrEOF, zeros(width-1))
	})
}

// A word that fits the current window has no window of its own, even if that would be the same one or would save bits.
func TestGetRejectsNewWindowInsideCurrent(t *testing.T) {
	source := rand.New(rand.NewSource(61))
	eachWindow(func(leading, width int) {
		head := zeros(64) + newWindow(leading, width) + ones(width)
		expectError(t, head+newWindow(leading, width)+ones(width)+"1", 3, api.ErrCanonical, "1")
		expectError(t, head+newWindow(leading, width)+zeros(width)+"1", 3, api.ErrCanonical, "1")
		start := source.Intn(width)
		size := 1 + source.Intn(width-start)
		inner := newWindow(leading+start, size) + ones(size)
		expectError(t, head+inner+"1", 3, api.ErrCanonical, "1")
		expectError(t, head+"0"+inner+"1", 4, api.ErrCanonical, "1")
		expectError(t, head+inner[:len(inner)-1], 3, api.ErrEOF, ones(size-1))
	})
}

// A window that is wider than the current one on either side is right if its word is.
func TestGetAcceptsNewWindowBesideCurrent(t *testing.T) {
	eachWindow(func(leading, width int) {
		if leading == 0 || leading+width == 64 {
			return
		}
		head := zeros(64) + newWindow(leading, width) + ones(width)
		first := wordOf(leading, ones(width))
		for _, c := range []struct{ start, size int }{
			{leading - 1, 1}, {leading - 1, width + 1}, {leading - 1, width + 2}, {leading, width + 1}, {leading + width, 1},
		} {
			next := first ^ wordOf(c.start, ones(c.size))
			expectRead(t, head+newWindow(c.start, c.size)+ones(c.size)+"1", 3, []uint64{0, first, next}, "1")
		}
	})
}

// The bits are read in order: what comes first is reported.
func TestFirstErrorOfGet(t *testing.T) {
	tooWide := zeros(64) + newWindow(60, 5)
	expectError(t, tooWide, 3, api.ErrCanonical, "")
	expectError(t, tooWide+"10", 3, api.ErrCanonical, "10")
	expectError(t, tooWide, -1, api.ErrArg, tooWide)
	otherWindow := zeros(64) + newWindow(60, 4) + "0110"
	expectError(t, otherWindow+"11", 3, api.ErrCanonical, "11")
	expectError(t, otherWindow[:len(otherWindow)-1], 3, api.ErrEOF, "011")
	expectError(t, zeros(64)+"0"+"11"+"11111", 3, api.ErrEOF, "11111")
	expectError(t, zeros(64)+"0"+"11"+"111111"+"00000", 3, api.ErrEOF, "00000")
	expectError(t, zeros(64)+"0"+"10", 3, api.ErrCanonical, "")
}

func TestGetContinuesAfterErrors(t *testing.T) {
	l := []uint64{1, 1, 3}
	r := readerAt(zeros(64) + newWindow(60, 4) + "0110" + reference(l) + "1")
	if _, e := Get(r, 2); e != api.ErrCanonical {
		t.Errorf("Get returns %v", e)
	}
	if _, e := Get(r, -1); e != api.ErrArg {
		t.Errorf("Get returns %v", e)
	}
	if got, e := Get(r, 3); e != api.OK || !slices.Equal(got, l) {
		t.Errorf("Get returns %x and %v, want %x", got, e, l)
	}
	if _, e := Get(r, 1); e != api.ErrEOF {
		t.Errorf("Get returns %v", e)
	}
	expectRest(t, r, "1")
}

func TestResultsShareNoMemory(t *testing.T) {
	l := []uint64{1, 2, 4, 9}
	digits := reference(l) + reference(l)
	r := readerAt(digits)
	first, _ := Get(r, 4)
	clear(first)
	second, _ := Get(r, 4)
	if !slices.Equal(second, l) {
		t.Errorf("Get returns %x, want %x", second, l)
	}
	clear(second)
	expectRead(t, digits, 4, l, reference(l))
}

// P6.3

func TestGetInvertsPut(t *testing.T) {
	for i, l := range lists() {
		before, rest := strings.Repeat("01", i%5), strings.Repeat("110", i%4)
		w := writerOf(before)
		Put(w, l)
		for _, c := range rest {
			w.Bits(uint64(c-'0'), 1)
		}
		r := bitio.NewReader(w.Bytes())
		r.Bits(len(before))
		got, e := Get(r, len(l))
		if e != api.OK || !slices.Equal(got, l) {
			t.Fatalf("Get returns %x and %v, want %x", got, e, l)
		}
		if left := 8*len(w.Bytes()) - len(before) - Size(l); r.Left() != left {
			t.Errorf("%d bits remain after %x, want %d", r.Left(), l, left)
		}
	}
}

func TestGetInvertsPutForFloats(t *testing.T) {
	l := []uint64{
		math.Float64bits(0), math.Float64bits(math.Copysign(0, -1)), math.Float64bits(math.NaN()), 0x7ff0000000000001,
		0xfff8000000000000, math.Float64bits(math.Inf(1)), math.Float64bits(math.Inf(-1)), math.Float64bits(1), 1,
	}
	expectRead(t, written(t, "", l), len(l), l, "")
}

// Whatever Get accepts is the encoding of its result, and whatever it rejects is none,
// among bits in which all windows occur, right ones and wrong ones.
func TestGetEqualsReference(t *testing.T) {
	source := rand.New(rand.NewSource(62))
	count := map[api.Errno]int{}
	for range 30000 {
		digits := nearlyEncoding(source)
		n := source.Intn(7)
		l, want, rest := referenceGet(digits, n)
		expectGet(t, digits, n, l, want, rest)
		if want == api.OK && written(t, "", l)+rest != digits {
			t.Fatalf("Get of %d values from %s accepts another encoding", n, digits)
		}
		count[want]++
	}
	for _, e := range []api.Errno{api.OK, api.ErrEOF, api.ErrCanonical} {
		if count[e] < 1000 {
			t.Errorf("only %d results are %v", count[e], e)
		}
	}
}

// nearlyEncoding returns bits that are often an encoding: windows are mostly within a word, and often those of their words.
func nearlyEncoding(source *rand.Rand) string {
	digits := binary(source.Uint64(), 64)
	width := 0
	for range 1 + source.Intn(6) {
		switch source.Intn(3) {
		case 0:
			digits += "0"
			continue
		case 1:
			digits += "10"
		default:
			leading := source.Intn(64)
			width = 1 + source.Intn(64-leading)
			if source.Intn(16) == 0 {
				width = 1 + source.Intn(64)
			}
			digits += newWindow(leading, width)
		}
		inside := []byte(binary(source.Uint64(), 64)[:width])
		if width > 0 && source.Intn(4) > 0 {
			inside[0], inside[width-1] = '1', '1'
		}
		digits += string(inside)
	}
	return digits[:len(digits)-source.Intn(4)*source.Intn(4)]
}

func TestGetOfAnyBits(t *testing.T) {
	source := rand.New(rand.NewSource(63))
	for range 20000 {
		b := make([]byte, source.Intn(40))
		source.Read(b)
		n := source.Intn(12)
		l, want, rest := referenceGet(bitsOf(b), n)
		expectGet(t, bitsOf(b), n, l, want, rest)
	}
}

// Every change of a few bits yields the encoding of other values, or an error.
func TestGetOfChangedBits(t *testing.T) {
	l := []uint64{1, 1, 3, 0xff, 0xf0, 1 << 40, 1 << 40, 0}
	digits := reference(l)
	for i := range digits {
		for j := i; j < min(i+8, len(digits)); j++ {
			b := []byte(digits)
			b[i] ^= 1
			if j > i {
				b[j] ^= 1
			}
			changed, want, rest := referenceGet(string(b), len(l))
			if slices.Equal(changed, l) {
				t.Fatalf("%s and %s are encodings of %x", digits, b, l)
			}
			expectGet(t, string(b), len(l), changed, want, rest)
		}
	}
}

// P1

func TestCallsAreIndependent(t *testing.T) {
	var group sync.WaitGroup
	for _, l := range lists()[:100] {
		group.Go(func() {
			w := bitio.NewWriter()
			Put(w, l)
			got, e := Get(bitio.NewReader(w.Bytes()), len(l))
			if e != api.OK || !slices.Equal(got, l) || Size(l) != w.Len() {
				t.Errorf("Get returns %x and %v, want %x", got, e, l)
			}
		})
	}
	group.Wait()
}

func TestSameCallSameResult(t *testing.T) {
	for _, l := range lists()[:50] {
		first, second := bitio.NewWriter(), bitio.NewWriter()
		Put(first, l)
		Put(second, l)
		if !bytes.Equal(first.Bytes(), second.Bytes()) {
			t.Errorf("two calls with %x differ", l)
		}
	}
}
