package times

import (
	"bytes"
	"fmt"
	"math"
	"math/big"
	"math/rand"
	"slices"
	"strings"
	"sync"
	"testing"

	"tsblock/api"
	"tsblock/bitio"
)

// encodings are lists of times with their encodings, written out by hand.
var encodings = []struct {
	l    []int64
	bits string
}{
	{nil, ""},
	{[]int64{0}, zeros(64)},
	{[]int64{-1}, ones(64)},
	{[]int64{5}, zeros(61) + "101"},
	{[]int64{math.MinInt64}, "1" + zeros(63)},
	{[]int64{math.MaxInt64}, "0" + ones(63)},
	{[]int64{0, 0}, zeros(64) + "0"},
	{[]int64{0, 1}, zeros(64) + "10" + "0000001"},
	{[]int64{0, -1}, zeros(64) + "10" + "1111111"},
	{[]int64{0, 63}, zeros(64) + "10" + "0111111"},
	{[]int64{0, -64}, zeros(64) + "10" + "1000000"},
	{[]int64{0, 64}, zeros(64) + "110" + "000001000000"},
	{[]int64{0, -65}, zeros(64) + "110" + "111110111111"},
	{[]int64{0, 2047}, zeros(64) + "110" + "011111111111"},
	{[]int64{0, -2048}, zeros(64) + "110" + "100000000000"},
	{[]int64{0, 2048}, zeros(64) + "1110" + zeros(20) + "100000000000"},
	{[]int64{0, -2049}, zeros(64) + "1110" + ones(20) + "011111111111"},
	{[]int64{0, math.MaxInt32}, zeros(64) + "1110" + "0" + ones(31)},
	{[]int64{0, math.MinInt32}, zeros(64) + "1110" + "1" + zeros(31)},
	{[]int64{0, math.MaxInt32 + 1}, zeros(64) + "1111" + zeros(32) + "1" + zeros(31)},
	{[]int64{0, math.MinInt32 - 1}, zeros(64) + "1111" + ones(32) + "0" + ones(31)},
	{[]int64{0, math.MaxInt64}, zeros(64) + "1111" + "0" + ones(63)},
	{[]int64{0, math.MinInt64}, zeros(64) + "1111" + "1" + zeros(63)},
	{[]int64{100, 160, 220, 281}, zeros(57) + "1100100" + "10" + "0111100" + "0" + "10" + "0000001"},
	// The difference wraps from 2^64 - 1 to -1, and back.
	{[]int64{math.MinInt64, math.MaxInt64}, "1" + zeros(63) + "10" + "1111111"},
	{[]int64{math.MaxInt64, math.MinInt64}, "0" + ones(63) + "10" + "0000001"},
	// The differences are 2^63 - 1 and -2^63, whose difference wraps to 1.
	{[]int64{0, math.MaxInt64, -1}, zeros(64) + "1111" + "0" + ones(63) + "10" + "0000001"},
	// The differences are -2^63, twice.
	{[]int64{0, math.MinInt64, 0}, zeros(64) + "1111" + "1" + zeros(63) + "0"},
}

// referenceForms are the rows of the chapter's table.
var referenceForms = []struct {
	mark       string
	from, upTo int64
	size       int
}{
	{"0", 0, 0, 0},
	{"10", -64, 63, 7},
	{"110", -2048, 2047, 12},
	{"1110", -1 << 31, 1<<31 - 1, 32},
	{"1111", math.MinInt64, math.MaxInt64, 64},
}

// bounds are the numbers at the bounds of the forms, and some that wrap.
var bounds = []int64{
	0, 1, -1, 2, -2, 62, 63, 64, -63, -64, -65, 65, 127, 128, -128, 2046, 2047, 2048, -2047, -2048, -2049, 4095, 4096,
	1<<31 - 2, 1<<31 - 1, 1 << 31, -1<<31 + 1, -1 << 31, -1<<31 - 1, 1<<32 - 1, 1 << 32,
	math.MaxInt64, math.MaxInt64 - 1, math.MinInt64, math.MinInt64 + 1, 1 << 62, -1 << 62, 1<<62 - 1,
}

func zeros(n int) string { return strings.Repeat("0", n) }

func ones(n int) string { return strings.Repeat("1", n) }

// wrapped returns a number as an int64, computed without the arithmetic of int64.
func wrapped(x *big.Int) *big.Int {
	half, whole := new(big.Int).Lsh(big.NewInt(1), 63), new(big.Int).Lsh(big.NewInt(1), 64)
	y := new(big.Int).Add(x, half)
	return y.Mod(y, whole).Sub(y, half)
}

// complement returns the two's complement of a number with n binary digits.
func complement(x *big.Int, n int) string {
	if n == 0 {
		return ""
	}
	y := new(big.Int).Mod(x, new(big.Int).Lsh(big.NewInt(1), uint(n)))
	return fmt.Sprintf("%0*s", n, y.Text(2))
}

// reference returns the encoding of times as binary digits.
func reference(l []int64) string {
	var s strings.Builder
	before := big.NewInt(0)
	for i, t := range l {
		if i == 0 {
			s.WriteString(complement(big.NewInt(t), 64))
			continue
		}
		d := wrapped(new(big.Int).Sub(big.NewInt(t), big.NewInt(l[i-1])))
		s.WriteString(referenceChange(wrapped(new(big.Int).Sub(d, before))))
		before = d
	}
	return s.String()
}

func referenceChange(x *big.Int) string {
	for _, f := range referenceForms {
		if x.Cmp(big.NewInt(f.from)) >= 0 && x.Cmp(big.NewInt(f.upTo)) <= 0 {
			return f.mark + complement(x, f.size)
		}
	}
	panic("no int64: " + x.String())
}

// written returns what Put writes, after some bits that it must keep.
func written(t *testing.T, before string, l []int64) string {
	t.Helper()
	w := writerOf(before)
	kept := slices.Clone(l)
	if e := Put(w, l); e != api.OK {
		t.Fatalf("Put of %d returns %v", l, e)
	}
	if !slices.Equal(l, kept) {
		t.Errorf("Put has changed %d to %d", kept, l)
	}
	digits := digitsOf(w)
	if !strings.HasPrefix(digits, before) {
		t.Fatalf("Put of %d has changed the bits %s to %s", l, before, digits)
	}
	return digits[len(before):]
}

func writerOf(digits string) *bitio.Writer {
	w := bitio.NewWriter()
	for _, c := range digits {
		w.Bits(uint64(c-'0'), 1)
	}
	return w
}

func digitsOf(w *bitio.Writer) string {
	return bitsOf(w.Bytes())[:w.Len()]
}

func bitsOf(b []byte) string {
	var s strings.Builder
	for _, c := range b {
		fmt.Fprintf(&s, "%08b", c)
	}
	return s.String()
}

// readerAt returns a reader that has the digits left, and nothing else.
func readerAt(digits string) *bitio.Reader {
	skip := (8 - len(digits)%8) % 8
	r := bitio.NewReader(writerOf(ones(skip) + digits).Bytes())
	r.Bits(skip)
	return r
}

// expectRead checks that Get reads times and leaves exactly the rest.
func expectRead(t *testing.T, digits string, n int, want []int64, rest string) {
	t.Helper()
	r := readerAt(digits)
	l, e := Get(r, n)
	if e != api.OK || !slices.Equal(l, want) {
		t.Errorf("Get of %d times from %s returns %d and %v, want %d", n, digits, l, e, want)
	}
	expectRest(t, r, rest)
}

// expectError checks that Get returns an error alone and leaves exactly the rest.
func expectError(t *testing.T, digits string, n int, want api.Errno, rest string) {
	t.Helper()
	r := readerAt(digits)
	l, e := Get(r, n)
	if e != want || len(l) != 0 {
		t.Errorf("Get of %d times from %s returns %d and %v, want nothing and %v", n, digits, l, e, want)
	}
	expectRest(t, r, rest)
}

func expectRest(t *testing.T, r *bitio.Reader, want string) {
	t.Helper()
	var s strings.Builder
	for r.Left() > 0 {
		x, _ := r.Bits(1)
		s.WriteByte('0' + byte(x))
	}
	if s.String() != want {
		t.Errorf("the bits %q remain, want %q", s.String(), want)
	}
}

// lists returns lists of times of many lengths: regular ones, with numbers at the bounds, and with any.
func lists() [][]int64 {
	source := rand.New(rand.NewSource(5))
	var all [][]int64
	for n := range 130 {
		steady, bounded, wild := []int64{}, []int64{}, []int64{}
		t, d := int64(source.Uint64()), int64(0)
		step := source.Int63n(100000)
		for i := range n {
			steady = append(steady, 1700000000000+int64(i)*step+source.Int63n(3))
			d += bounds[source.Intn(len(bounds))]
			t += d
			bounded = append(bounded, t)
			wild = append(wild, int64(source.Uint64())>>source.Intn(64))
		}
		all = append(all, steady, bounded, wild)
	}
	for _, x := range bounds {
		all = append(all, []int64{x})
		for _, y := range bounds {
			all = append(all, []int64{x, y}, []int64{0, x, x + x + y})
		}
	}
	return all
}

// P5.1

func TestPutWritesEncoding(t *testing.T) {
	for _, c := range encodings {
		if got := written(t, "", c.l); got != c.bits {
			t.Errorf("Put of %d writes %s, want %s", c.l, got, c.bits)
		}
		if got := reference(c.l); got != c.bits {
			t.Errorf("the reference of %d is %s, want %s", c.l, got, c.bits)
		}
		if got := Size(c.l); got != len(c.bits) {
			t.Errorf("Size of %d is %d, want %d", c.l, got, len(c.bits))
		}
	}
}

func TestExampleTakes83Bits(t *testing.T) {
	l := []int64{100, 160, 220, 281}
	if n := Size(l); n != 83 {
		t.Errorf("Size is %d", n)
	}
	if got := written(t, "", l); len(got) != 83 {
		t.Errorf("Put writes %d bits", len(got))
	}
}

func TestPutEqualsReference(t *testing.T) {
	for i, l := range lists() {
		before := strings.Repeat("101", i%9)
		want := reference(l)
		if got := written(t, before, l); got != want {
			t.Errorf("Put of %d writes %s, want %s", l, got, want)
		}
		if got := Size(l); got != len(want) {
			t.Errorf("Size of %d is %d, want %d", l, got, len(want))
		}
	}
}

func TestFormsAtTheirBounds(t *testing.T) {
	for i, x := range bounds {
		want := referenceChange(big.NewInt(x))
		for _, first := range []int64{0, 1, -1, math.MaxInt64, math.MinInt64} {
			l := []int64{first, first + x}
			if got := written(t, "", l)[64:]; got != want {
				t.Errorf("number %d: Put of %d writes %s after 64 bits, want %s", i, l, got, want)
			}
		}
		d := int64(1000)
		l := []int64{7, 7 + d, 7 + d + d + x}
		if got := written(t, "", l)[64+15:]; got != want {
			t.Errorf("number %d: Put of %d writes %s after 79 bits, want %s", i, l, got, want)
		}
	}
}

func TestFormsOfAllSmallNumbers(t *testing.T) {
	for x := int64(-5000); x <= 5000; x++ {
		l := []int64{0, x}
		want := zeros(64) + referenceChange(big.NewInt(x))
		if got := written(t, "", l); got != want || Size(l) != len(want) {
			t.Fatalf("Put of %d writes %s, Size is %d; want %s", l, got, Size(l), want)
		}
		expectRead(t, want, 2, l, "")
	}
}

func TestEmptyListIsNothing(t *testing.T) {
	for _, l := range [][]int64{nil, {}} {
		if got := written(t, "101", l); got != "" {
			t.Errorf("Put of an empty list writes %s", got)
		}
		if Size(l) != 0 {
			t.Errorf("Size of an empty list is %d", Size(l))
		}
	}
}

func TestPutWithoutWriter(t *testing.T) {
	for _, l := range [][]int64{nil, {}, {1}, {1, 2, 3}} {
		if e := Put(nil, l); e != api.ErrNil {
			t.Errorf("Put of %d to a nil writer returns %v", l, e)
		}
	}
}

func TestPutAfterPut(t *testing.T) {
	w := bitio.NewWriter()
	want := ""
	for _, c := range encodings {
		if e := Put(w, c.l); e != api.OK {
			t.Fatalf("Put returns %v", e)
		}
		want += c.bits
		if got := digitsOf(w); got != want {
			t.Fatalf("%s is written, want %s", got, want)
		}
	}
}

func TestWithinLength(t *testing.T) {
	memory := []int64{1, 2, 4, 8, 16, 32}
	for n := range len(memory) + 1 {
		if got, want := written(t, "", memory[:n]), reference(slices.Clone(memory[:n])); got != want {
			t.Errorf("Put of %d writes %s, want %s", memory[:n], got, want)
		}
		if Size(memory[:n]) != len(reference(memory[:n])) {
			t.Errorf("Size of %d is %d", memory[:n], Size(memory[:n]))
		}
	}
	if !slices.Equal(memory, []int64{1, 2, 4, 8, 16, 32}) {
		t.Errorf("the memory is changed to %d", memory)
	}
}

// P5.2

func TestGetReadsEncodings(t *testing.T) {
	for _, c := range encodings {
		for _, rest := range []string{"", "0", "1", ones(70), zeros(70)} {
			expectRead(t, c.bits+rest, len(c.l), c.l, rest)
		}
	}
}

func TestGetReadsFewerTimes(t *testing.T) {
	l := []int64{100, 160, 220, 281, math.MinInt64, 5}
	all := reference(l)
	for n := range len(l) + 1 {
		expectRead(t, all, n, l[:n], all[len(reference(l[:n])):])
	}
}

func TestGetOfNothing(t *testing.T) {
	for _, digits := range []string{"", "1", zeros(64), ones(100)} {
		expectRead(t, digits, 0, nil, digits)
	}
}

func TestGetWithoutReader(t *testing.T) {
	for _, n := range []int{0, 1, 2, -1, math.MinInt, math.MaxInt} {
		if l, e := Get(nil, n); len(l) != 0 || e != api.ErrNil {
			t.Errorf("Get of %d times from a nil reader returns %d and %v", n, l, e)
		}
	}
}

func TestGetOfNegativeNumber(t *testing.T) {
	for _, n := range []int{-1, -2, -64, math.MinInt, math.MinInt + 1} {
		for _, digits := range []string{"", "1", zeros(64), ones(100)} {
			expectError(t, digits, n, api.ErrArg, digits)
		}
	}
}

// A part that does not fit is not read; the parts before it are.
func TestGetOfCutEncodings(t *testing.T) {
	for _, c := range []struct {
		l     []int64
		parts []int // the numbers of bits that are read at a time
	}{
		{[]int64{-7}, []int{64}},
		{[]int64{0, 0}, []int{64, 1}},
		{[]int64{0, -64}, []int{64, 1, 1, 7}},
		{[]int64{0, 64}, []int{64, 1, 1, 1, 12}},
		{[]int64{0, -2049}, []int{64, 1, 1, 1, 1, 32}},
		{[]int64{0, math.MaxInt64}, []int{64, 1, 1, 1, 1, 64}},
		{[]int64{3, 3, 6}, []int{64, 1, 1, 1, 7}},
		{[]int64{3, 1 << 40, 3, 4, 5, 1e6}, []int{64, 1, 1, 1, 1, 64, 1, 1, 1, 1, 64, 1, 1, 1, 1, 64, 1, 1, 1, 1, 1, 32}},
	} {
		digits := reference(c.l)
		total := 0
		for _, size := range c.parts {
			for cut := total; cut < total+size; cut++ {
				expectError(t, digits[:cut], len(c.l), api.ErrEOF, digits[total:cut])
			}
			total += size
		}
		if total != len(digits) {
			t.Fatalf("the parts of %d have %d bits, want %d", c.l, total, len(digits))
		}
		expectRead(t, digits, len(c.l), c.l, "")
	}
}

func TestGetOfTooManyTimes(t *testing.T) {
	for _, c := range encodings[1:] {
		expectError(t, c.bits, len(c.l)+1, api.ErrEOF, "")
	}
	for _, n := range []int{1 << 31, math.MaxInt, math.MaxInt - 1} {
		expectError(t, "", n, api.ErrEOF, "")
		expectError(t, ones(63), n, api.ErrEOF, ones(63))
		expectError(t, zeros(2000), n, api.ErrEOF, "")
	}
}

// Numbers in a form although an earlier one is possible, down to the bounds of the forms.
func TestGetRejectsLongForms(t *testing.T) {
	l := []int64{100, 160, 220}
	for _, x := range bounds {
		isFirst := true
		for _, f := range referenceForms {
			if x < f.from || x > f.upTo {
				continue
			}
			digits := reference(l) + f.mark + complement(big.NewInt(x), f.size)
			next := l[2] + 60 + x
			for _, rest := range []string{"", "0", "10", ones(80)} {
				if isFirst {
					expectRead(t, digits+rest, 4, append(slices.Clone(l), next), rest)
				} else {
					expectError(t, digits+rest, 4, api.ErrCanonical, rest)
					expectError(t, digits+rest, 5, api.ErrCanonical, rest)
				}
			}
			isFirst = false
		}
	}
}

func TestGetRejectsAllSmallNumbersInLongForms(t *testing.T) {
	for x := int64(-2048); x <= 2047; x++ {
		for i, f := range referenceForms[1:] {
			if x < f.from || x > f.upTo {
				continue
			}
			shorter := referenceForms[i]
			digits := zeros(64) + f.mark + complement(big.NewInt(x), f.size)
			if x < shorter.from || x > shorter.upTo {
				expectRead(t, digits, 2, []int64{0, x}, "")
			} else {
				expectError(t, digits, 2, api.ErrCanonical, "")
			}
		}
	}
}

// The bits are read in order: what comes first is reported.
func TestFirstErrorOfGet(t *testing.T) {
	notCanonical := zeros(64) + "10" + zeros(7)
	expectError(t, notCanonical, 3, api.ErrCanonical, "")
	expectError(t, notCanonical+"110", 3, api.ErrCanonical, "110")
	expectError(t, notCanonical[:72], 2, api.ErrEOF, zeros(6))
	expectError(t, zeros(64)+"1111"+zeros(63), 2, api.ErrEOF, zeros(63))
	expectError(t, zeros(64)+"0"+"1110"+zeros(31), 3, api.ErrEOF, zeros(31))
	expectError(t, notCanonical, -1, api.ErrArg, notCanonical)
}

func TestGetContinuesAfterErrors(t *testing.T) {
	l := []int64{1, 2, 4}
	r := readerAt(zeros(64) + "10" + zeros(7) + reference(l) + "1")
	if _, e := Get(r, 2); e != api.ErrCanonical {
		t.Errorf("Get returns %v", e)
	}
	if _, e := Get(r, -1); e != api.ErrArg {
		t.Errorf("Get returns %v", e)
	}
	if got, e := Get(r, 3); e != api.OK || !slices.Equal(got, l) {
		t.Errorf("Get returns %d and %v, want %d", got, e, l)
	}
	if _, e := Get(r, 1); e != api.ErrEOF {
		t.Errorf("Get returns %v", e)
	}
	expectRest(t, r, "1")
}

func TestResultsShareNoMemory(t *testing.T) {
	l := []int64{1, 2, 4, 9}
	digits := reference(l) + reference(l)
	r := readerAt(digits)
	first, _ := Get(r, 4)
	clear(first)
	second, _ := Get(r, 4)
	if !slices.Equal(second, l) {
		t.Errorf("Get returns %d, want %d", second, l)
	}
	clear(second)
	expectRead(t, digits, 4, l, reference(l))
}

// P5.3

func TestGetInvertsPut(t *testing.T) {
	for i, l := range lists() {
		before, rest := strings.Repeat("01", i%5), strings.Repeat("110", i%4)
		w := writerOf(before)
		Put(w, l)
		for _, c := range rest {
			w.Bits(uint64(c-'0'), 1)
		}
		r := bitio.NewReader(w.Bytes())
		r.Bits(len(before))
		got, e := Get(r, len(l))
		if e != api.OK || !slices.Equal(got, l) {
			t.Fatalf("Get returns %d and %v, want %d", got, e, l)
		}
		if left := 8*len(w.Bytes()) - len(before) - Size(l); r.Left() != left {
			t.Errorf("%d bits remain after %d, want %d", r.Left(), l, left)
		}
	}
}

// Whatever Get accepts is the encoding of its result, among bits in which all forms occur.
func TestGetReadsEncodingsOnly(t *testing.T) {
	source := rand.New(rand.NewSource(6))
	accepted, rejected := 0, 0
	for range 20000 {
		digits := complement(new(big.Int).SetUint64(source.Uint64()), 64)
		for range 1 + source.Intn(4) {
			f := referenceForms[source.Intn(len(referenceForms))]
			x := big.NewInt(int64(source.Uint64()) >> source.Intn(64))
			digits += f.mark + complement(x, f.size)
		}
		n := source.Intn(6)
		r := readerAt(digits)
		l, e := Get(r, n)
		read := digits[:len(digits)-r.Left()]
		if e != api.OK {
			rejected++
			continue
		}
		accepted++
		if len(l) != n || reference(l) != read || written(t, "", l) != read {
			t.Fatalf("Get of %d times has read %s and returns %d", n, read, l)
		}
	}
	if accepted < 1000 || rejected < 1000 {
		t.Errorf("%d strings of bits are accepted, %d are rejected", accepted, rejected)
	}
}

func TestGetOfAnyBits(t *testing.T) {
	source := rand.New(rand.NewSource(7))
	for range 20000 {
		b := make([]byte, source.Intn(40))
		source.Read(b)
		n := source.Intn(12)
		r := bitio.NewReader(b)
		l, e := Get(r, n)
		switch e {
		case api.OK:
			read := bitsOf(b)[:8*len(b)-r.Left()]
			if len(l) != n || reference(l) != read {
				t.Fatalf("Get of %d times has read %s and returns %d", n, read, l)
			}
		case api.ErrEOF, api.ErrCanonical:
			if len(l) != 0 {
				t.Fatalf("Get of %d times from %x returns %d and %v", n, b, l, e)
			}
		default:
			t.Fatalf("Get of %d times from %x returns %v", n, b, e)
		}
	}
}

// P1

func TestCallsAreIndependent(t *testing.T) {
	var group sync.WaitGroup
	for _, l := range lists()[:100] {
		group.Go(func() {
			w := bitio.NewWriter()
			Put(w, l)
			got, e := Get(bitio.NewReader(w.Bytes()), len(l))
			if e != api.OK || !slices.Equal(got, l) || Size(l) != w.Len() {
				t.Errorf("Get returns %d and %v, want %d", got, e, l)
			}
		})
	}
	group.Wait()
}

func TestSameCallSameResult(t *testing.T) {
	for _, l := range lists()[:50] {
		first, second := bitio.NewWriter(), bitio.NewWriter()
		Put(first, l)
		Put(second, l)
		if !bytes.Equal(first.Bytes(), second.Bytes()) {
			t.Errorf("two calls with %d differ", l)
		}
	}
}

// The differences stop where the loop over them is left.
func TestChangesStop(t *testing.T) {
	var got []int64
	for x := range changes([]int64{0, 1, 3, 6, 10}) {
		got = append(got, x)
		if len(got) == 2 {
			break
		}
	}
	if !slices.Equal(got, []int64{1, 1}) {
		t.Errorf("the differences are %d", got)
	}
}
