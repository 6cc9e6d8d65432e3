package dictval

import (
	"bytes"
	"fmt"
	"math"
	"math/rand"
	"slices"
	"strconv"
	"strings"
	"sync"
	"testing"

	"tsblock/api"
	"tsblock/bitio"
)

const allOnes = math.MaxUint64

// encodings are lists of values with their dictionaries and encodings, written out by hand.
var encodings = []struct {
	l          []uint64
	dictionary []uint64
	bits       string
}{
	{nil, nil, ""},
	// Dictionaries of 1 value: the indices have no bits.
	{[]uint64{0}, []uint64{0}, "0000000" + zeros(64)},
	{[]uint64{5}, []uint64{5}, "0000000" + zeros(61) + "101"},
	{[]uint64{allOnes, allOnes, allOnes}, []uint64{allOnes}, "0000000" + ones(64)},
	{slices.Repeat([]uint64{1 << 63}, 300), []uint64{1 << 63}, "0000000" + "1" + zeros(63)},
	// Dictionaries of 2 values.
	{[]uint64{9, 7, 9}, []uint64{7, 9}, "0000001" + zeros(61) + "111" + zeros(60) + "1001" + "101"},
	{[]uint64{0, 0, 1, 0}, []uint64{0, 1}, "0000001" + zeros(64) + zeros(63) + "1" + "0010"},
	{[]uint64{3, 2}, []uint64{2, 3}, "0000001" + zeros(62) + "10" + zeros(62) + "11" + "10"},
	// Values are compared as unsigned numbers, and in all their bits.
	{[]uint64{1 << 63, 0}, []uint64{0, 1 << 63}, "0000001" + zeros(64) + "1" + zeros(63) + "10"},
	{[]uint64{allOnes, 1, allOnes}, []uint64{1, allOnes}, "0000001" + zeros(63) + "1" + ones(64) + "101"},
	{[]uint64{1<<32 + 1, 1}, []uint64{1, 1<<32 + 1}, "0000001" + zeros(63) + "1" + zeros(31) + "1" + zeros(31) + "1" + "10"},
	// Dictionaries of 3 to 5 values.
	{[]uint64{8, 4, 6}, []uint64{4, 6, 8}, "0000010" + zeros(61) + "100" + zeros(61) + "110" + zeros(60) + "1000" + "100001"},
	{[]uint64{1, 1 << 63, 1, allOnes, 1 << 63}, []uint64{1, 1 << 63, allOnes},
		"0000010" + zeros(63) + "1" + "1" + zeros(63) + ones(64) + "0001001001"},
	{[]uint64{0, 1, 2, 3}, []uint64{0, 1, 2, 3},
		"0000011" + zeros(64) + zeros(63) + "1" + zeros(62) + "10" + zeros(62) + "11" + "00011011"},
	{[]uint64{4, 3, 2, 1, 0, 4}, []uint64{0, 1, 2, 3, 4},
		"0000100" + zeros(64) + zeros(63) + "1" + zeros(62) + "10" + zeros(62) + "11" + zeros(61) + "100" +
			"100011010001000100"},
}

// counts are numbers of values of a dictionary around each width, up to the greatest permitted one.
var counts = []int{1, 2, 3, 4, 5, 7, 8, 9, 15, 16, 17, 31, 32, 33, 63, 64, 65, 126, 127, 128}

// longNumbers are numbers of values for which there could be no memory.
var longNumbers = []int{1 << 31, 1 << 40, math.MaxInt - 1, math.MaxInt}

func zeros(n int) string { return strings.Repeat("0", n) }

func ones(n int) string { return strings.Repeat("1", n) }

// binary returns a number with n binary digits, of which there are none if n is 0.
func binary(x uint64, n int) string {
	if n == 0 {
		return ""
	}
	return fmt.Sprintf("%0*b", n, x)
}

// number returns the number with some binary digits.
func number(digits string) uint64 {
	x, err := strconv.ParseUint("0"+digits, 2, 64)
	if err != nil {
		panic(err)
	}
	return x
}

// referenceWidth returns the least number of digits with which all numbers below count can be written.
func referenceWidth(count int) int {
	width := 0
	for writable := 1; writable < count; writable *= 2 {
		width++
	}
	return width
}

// referenceDictionary returns the distinct values, each of which is put where it belongs.
func referenceDictionary(l []uint64) []uint64 {
	var dictionary []uint64
	for _, value := range l {
		i := 0
		for i < len(dictionary) && dictionary[i] < value {
			i++
		}
		if i == len(dictionary) || dictionary[i] != value {
			dictionary = slices.Insert(dictionary, i, value)
		}
	}
	return dictionary
}

// dictionaryDigits returns how the values of a dictionary are written, whether they are in order or not.
func dictionaryDigits(values ...uint64) string {
	var s strings.Builder
	s.WriteString(binary(uint64(len(values)-1), 7))
	for _, value := range values {
		s.WriteString(binary(value, 64))
	}
	return s.String()
}

// indexDigits returns how indices into a dictionary with count values are written, whether they are those of values or not.
func indexDigits(count int, indices ...int) string {
	var s strings.Builder
	for _, i := range indices {
		s.WriteString(binary(uint64(i), referenceWidth(count)))
	}
	return s.String()
}

// reference returns the encoding of values as binary digits; their dictionary must not have too many values.
func reference(l []uint64) string {
	if len(l) == 0 {
		return ""
	}
	dictionary := referenceDictionary(l)
	var indices []int
	for _, value := range l {
		indices = append(indices, slices.Index(dictionary, value))
	}
	return dictionaryDigits(dictionary...) + indexDigits(len(dictionary), indices...)
}

// referenceGet reads n values from binary digits part by part. Whether all values of the dictionary have been used
// is found by encoding the values again. It returns the digits that remain.
func referenceGet(digits string, n int) ([]uint64, api.Errno, string) {
	if n == 0 {
		return nil, api.OK, digits
	}
	rest := digits
	take := func(size int) (uint64, bool) {
		if size > len(rest) {
			return 0, false
		}
		x := number(rest[:size])
		rest = rest[size:]
		return x, true
	}
	last, ok := take(7)
	if !ok {
		return nil, api.ErrEOF, rest
	}
	var dictionary []uint64
	for range last + 1 {
		value, ok := take(64)
		if !ok {
			return nil, api.ErrEOF, rest
		}
		dictionary = append(dictionary, value)
		if !slices.Equal(dictionary, referenceDictionary(dictionary)) {
			return nil, api.ErrCanonical, rest
		}
	}
	var l []uint64
	for range n {
		index, ok := take(referenceWidth(len(dictionary)))
		if !ok {
			return nil, api.ErrEOF, rest
		}
		if index > last {
			return nil, api.ErrCanonical, rest
		}
		l = append(l, dictionary[index])
	}
	if reference(l)+rest != digits {
		return nil, api.ErrCanonical, rest
	}
	return l, api.OK, rest
}

// distinct returns different values in an order other than the ascending one.
func distinct(count int) []uint64 {
	var l []uint64
	for i := range count {
		l = append(l, uint64(i+1)*0x9e3779b97f4a7c15)
	}
	return l
}

// first returns the numbers below n.
func first(n int) []int {
	var l []int
	for i := range n {
		l = append(l, i)
	}
	return l
}

// written returns what Put writes, after some bits that it must keep.
func written(t *testing.T, before string, l []uint64) string {
	t.Helper()
	w := writerOf(before)
	kept := slices.Clone(l)
	if e := Put(w, l); e != api.OK {
		t.Fatalf("Put of %x returns %v", l, e)
	}
	if !slices.Equal(l, kept) {
		t.Errorf("Put has changed %x to %x", kept, l)
	}
	digits := digitsOf(w)
	if !strings.HasPrefix(digits, before) {
		t.Fatalf("Put of %x has changed the bits %s to %s", l, before, digits)
	}
	return digits[len(before):]
}

func writerOf(digits string) *bitio.Writer {
	w := bitio.NewWriter()
	for _, c := range digits {
		w.Bits(uint64(c-'0'), 1)
	}
	return w
}

func digitsOf(w *bitio.Writer) string { return bitsOf(w.Bytes())[:w.Len()] }

func bitsOf(b []byte) string {
	var s strings.Builder
	for _, c := range b {
		s.WriteString(binary(uint64(c), 8))
	}
	return s.String()
}

// readerAt returns a reader that has the digits left, and nothing else.
func readerAt(digits string) *bitio.Reader {
	skip := (8 - len(digits)%8) % 8
	r := bitio.NewReader(writerOf(ones(skip) + digits).Bytes())
	r.Bits(skip)
	return r
}

// expectGet checks all that Get does.
func expectGet(t *testing.T, digits string, n int, want []uint64, wantError api.Errno, rest string) {
	t.Helper()
	r := readerAt(digits)
	l, e := Get(r, n)
	if e != wantError || !slices.Equal(l, want) {
		t.Errorf("Get of %d values from %s returns %x and %v, want %x and %v", n, digits, l, e, want, wantError)
	}
	expectRest(t, r, rest)
}

// expectRead checks that Get reads values and leaves exactly the rest.
func expectRead(t *testing.T, digits string, n int, want []uint64, rest string) {
	t.Helper()
	expectGet(t, digits, n, want, api.OK, rest)
}

// expectError checks that Get returns an error alone and leaves exactly the rest.
func expectError(t *testing.T, digits string, n int, want api.Errno, rest string) {
	t.Helper()
	expectGet(t, digits, n, nil, want, rest)
}

func expectRest(t *testing.T, r *bitio.Reader, want string) {
	t.Helper()
	var s strings.Builder
	for r.Left() > 0 {
		x, _ := r.Bits(1)
		s.WriteByte('0' + byte(x))
	}
	if s.String() != want {
		t.Errorf("the bits %q remain, want %q", s.String(), want)
	}
}

// lists returns lists of values whose dictionaries have all permitted numbers of values, used once or more often.
func lists() [][]uint64 {
	source := rand.New(rand.NewSource(8))
	all := [][]uint64{nil}
	for count := 1; count <= 128; count++ {
		l := distinct(count)
		all = append(all, l, append(slices.Clone(l), l...))
		for range 2 * count {
			l = append(l, l[source.Intn(count)])
		}
		shuffle(source, l)
		all = append(all, l)
	}
	for n := range 129 {
		var few, wild []uint64
		for range n {
			few = append(few, source.Uint64()%3)
			wild = append(wild, source.Uint64()>>source.Intn(64))
		}
		all = append(all, few, wild, slices.Repeat([]uint64{source.Uint64()}, 1+3*n))
	}
	return all
}

// tooManyValues returns lists whose dictionaries have more than 128 values.
func tooManyValues() [][]uint64 {
	var all [][]uint64
	for _, count := range []int{129, 130, 131, 255, 256, 257, 1000} {
		l := distinct(count)
		descending := slices.Clone(l)
		slices.Reverse(descending)
		all = append(all, l, descending, append(slices.Repeat([]uint64{l[0]}, 200), l...), append(slices.Clone(l), l...))
	}
	return all
}

func shuffle(source *rand.Rand, l []uint64) {
	source.Shuffle(len(l), func(i, j int) { l[i], l[j] = l[j], l[i] })
}

// P8.1

func TestDictionaryReturnsDistinctValues(t *testing.T) {
	for _, c := range encodings {
		kept := slices.Clone(c.l)
		if got := Dictionary(c.l); !slices.Equal(got, c.dictionary) {
			t.Errorf("Dictionary of %x returns %x, want %x", c.l, got, c.dictionary)
		}
		if !slices.Equal(c.l, kept) {
			t.Errorf("Dictionary has changed %x to %x", kept, c.l)
		}
		if got := referenceDictionary(c.l); !slices.Equal(got, c.dictionary) {
			t.Errorf("the reference of %x is %x, want %x", c.l, got, c.dictionary)
		}
	}
}

func TestDictionaryEqualsReference(t *testing.T) {
	for _, l := range append(lists(), tooManyValues()...) {
		if got, want := Dictionary(l), referenceDictionary(l); !slices.Equal(got, want) {
			t.Fatalf("Dictionary of %x returns %x, want %x", l, got, want)
		}
	}
}

func TestDictionaryOfUnsignedNumbers(t *testing.T) {
	for i := range 64 {
		high := uint64(1) << i
		want := []uint64{high - 1, high, high + 1}
		for _, l := range [][]uint64{{high, high - 1, high + 1}, {high + 1, high, high - 1, high}} {
			if got := Dictionary(l); !slices.Equal(got, want) {
				t.Errorf("Dictionary of %x returns %x", l, got)
			}
		}
	}
}

// A list that is its own dictionary is copied, too.
func TestDictionaryIsNewlyAllocated(t *testing.T) {
	l := []uint64{1, 4, 9}
	clear(Dictionary(l))
	clear(Dictionary(l[:1]))
	if !slices.Equal(l, []uint64{1, 4, 9}) {
		t.Errorf("the list is changed to %d", l)
	}
	got := Dictionary(l)
	l[0] = 5
	if !slices.Equal(got, []uint64{1, 4, 9}) {
		t.Errorf("the dictionary is changed to %d", got)
	}
}

func TestWidthOfSomeCounts(t *testing.T) {
	for count, want := range map[int]int{
		1: 0, 2: 1, 3: 2, 4: 2, 5: 3, 8: 3, 9: 4, 16: 4, 17: 5, 32: 5, 33: 6, 64: 6, 65: 7, 127: 7, 128: 7, 129: 8,
		256: 8, 257: 9, 1 << 31: 31, 1<<31 + 1: 32, 1 << 62: 62, 1<<62 + 1: 63, math.MaxInt: 63,
	} {
		if got := Width(count); got != want {
			t.Errorf("Width of %d is %d, want %d", count, got, want)
		}
	}
}

func TestWidthOfAllSmallCounts(t *testing.T) {
	for count := 1; count <= 5000; count++ {
		if got, want := Width(count), referenceWidth(count); got != want {
			t.Errorf("Width of %d is %d, want %d", count, got, want)
		}
	}
}

func TestWidthOfCountsLessThan1(t *testing.T) {
	for count := -300; count < 1; count++ {
		if got := Width(count); got != 0 {
			t.Errorf("Width of %d is %d", count, got)
		}
	}
	for _, count := range []int{math.MinInt, math.MinInt + 1, math.MinInt32, -1 << 32} {
		if got := Width(count); got != 0 {
			t.Errorf("Width of %d is %d", count, got)
		}
	}
}

// P8.2

func TestPutWritesEncoding(t *testing.T) {
	for _, c := range encodings {
		if got := written(t, "", c.l); got != c.bits {
			t.Errorf("Put of %x writes %s, want %s", c.l, got, c.bits)
		}
		if got := reference(c.l); got != c.bits {
			t.Errorf("the reference of %x is %s, want %s", c.l, got, c.bits)
		}
		if got := Size(c.l); got != len(c.bits) {
			t.Errorf("Size of %x is %d, want %d", c.l, got, len(c.bits))
		}
	}
}

func TestExampleTakes138Bits(t *testing.T) {
	l := []uint64{9, 7, 9}
	if n := Size(l); n != 7+128+3 {
		t.Errorf("Size of %d is %d", l, n)
	}
	if got := written(t, "", l); len(got) != 7+128+3 {
		t.Errorf("Put of %d writes %d bits", l, len(got))
	}
}

// The sizes of dictionaries with 1 value, as many as are permitted, and numbers between.
func TestSizes(t *testing.T) {
	for _, c := range []struct{ count, size int }{
		{1, 7 + 64}, {2, 7 + 128 + 2}, {3, 7 + 192 + 6}, {127, 7 + 127*64 + 127*7}, {128, 7 + 128*64 + 128*7},
	} {
		l := distinct(c.count)
		if n := Size(l); n != c.size {
			t.Errorf("Size of %d distinct values is %d, want %d", c.count, n, c.size)
		}
		if got := written(t, "", l); len(got) != c.size {
			t.Errorf("Put of %d distinct values writes %d bits, want %d", c.count, len(got), c.size)
		}
	}
}

func TestPutEqualsReference(t *testing.T) {
	for i, l := range lists() {
		before := strings.Repeat("101", i%9)
		want := reference(l)
		if got := written(t, before, l); got != want {
			t.Fatalf("Put of %x writes %s, want %s", l, got, want)
		}
		if got := Size(l); got != len(want) {
			t.Fatalf("Size of %x is %d, want %d", l, got, len(want))
		}
	}
}

func TestEmptyListIsNothing(t *testing.T) {
	for _, l := range [][]uint64{nil, {}} {
		if got := written(t, "101", l); got != "" {
			t.Errorf("Put of an empty list writes %s", got)
		}
		if Size(l) != 0 || len(Dictionary(l)) != 0 {
			t.Errorf("of an empty list, Size is %d and Dictionary %x", Size(l), Dictionary(l))
		}
	}
}

func TestPutRejectsTooManyValues(t *testing.T) {
	for _, l := range tooManyValues() {
		for _, before := range []string{"", "1", "00000000", "101100111000"} {
			w := writerOf(before)
			kept := slices.Clone(l)
			if e := Put(w, l); e != api.ErrLimit {
				t.Errorf("Put of %x returns %v", l, e)
			}
			if got := digitsOf(w); got != before {
				t.Errorf("Put of %x has written %s after %s", l, got, before)
			}
			if !slices.Equal(l, kept) {
				t.Errorf("Put has changed %x to %x", kept, l)
			}
		}
		if got := Size(l); got != -1 {
			t.Errorf("Size of %x is %d", l, got)
		}
	}
}

// As many values as one likes have an encoding, as long as few of them are distinct.
func TestPutAcceptsLongLists(t *testing.T) {
	for _, count := range []int{1, 2, 3, 127, 128} {
		l := slices.Repeat(distinct(count), 20)
		if got := written(t, "", l); got != reference(l) {
			t.Errorf("Put of %x writes %s", l, got)
		}
	}
}

func TestPutWithoutWriter(t *testing.T) {
	for _, l := range append(tooManyValues(), nil, []uint64{}) {
		if e := Put(nil, l); e != api.ErrNil {
			t.Errorf("Put of %x to a nil writer returns %v", l, e)
		}
	}
	for _, c := range encodings {
		if e := Put(nil, c.l); e != api.ErrNil {
			t.Errorf("Put of %x to a nil writer returns %v", c.l, e)
		}
	}
}

// Each list has a dictionary of its own, and one that fails leaves no trace.
func TestPutAfterPut(t *testing.T) {
	w := bitio.NewWriter()
	want := ""
	for _, c := range append(encodings, encodings...) {
		if e := Put(w, c.l); e != api.OK {
			t.Fatalf("Put returns %v", e)
		}
		if e := Put(w, distinct(129)); e != api.ErrLimit {
			t.Fatalf("Put of 129 distinct values returns %v", e)
		}
		want += c.bits
		if got := digitsOf(w); got != want {
			t.Fatalf("%s is written, want %s", got, want)
		}
	}
}

func TestWithinLength(t *testing.T) {
	memory := append(distinct(128), 3, 3, 4)
	kept := slices.Clone(memory)
	for n := range 129 {
		l, want := memory[:n], slices.Clone(memory[:n])
		if got := written(t, "", l); got != reference(want) || Size(l) != len(reference(want)) {
			t.Errorf("Put of %x writes %s, Size is %d", l, got, Size(l))
		}
		if got := Dictionary(l); !slices.Equal(got, referenceDictionary(want)) {
			t.Errorf("Dictionary of %x returns %x", l, got)
		}
	}
	if !slices.Equal(memory, kept) {
		t.Errorf("the memory is changed to %x", memory)
	}
}

// P8.3

func TestGetReadsEncodings(t *testing.T) {
	for _, c := range encodings {
		for _, rest := range []string{"", "0", "1", ones(80), zeros(80)} {
			expectRead(t, c.bits+rest, len(c.l), c.l, rest)
		}
	}
}

func TestGetOfNothing(t *testing.T) {
	for _, digits := range []string{"", "1", zeros(71), ones(142), dictionaryDigits(2, 1)} {
		expectRead(t, digits, 0, nil, digits)
	}
}

func TestGetWithoutReader(t *testing.T) {
	for _, n := range []int{0, 1, 2, 129, -1, math.MinInt, math.MaxInt} {
		if l, e := Get(nil, n); len(l) != 0 || e != api.ErrNil {
			t.Errorf("Get of %d values from a nil reader returns %x and %v", n, l, e)
		}
	}
}

func TestGetOfNegativeNumber(t *testing.T) {
	for _, n := range []int{-1, -2, -128, math.MinInt, math.MinInt + 1} {
		for _, digits := range []string{"", "1", zeros(71), ones(142), dictionaryDigits(2, 1)} {
			expectError(t, digits, n, api.ErrArg, digits)
		}
	}
}

// A part that does not fit is not read; the parts before it are.
func TestGetOfCutEncodings(t *testing.T) {
	list := [][]uint64{distinct(5), distinct(9), distinct(17)}
	for _, c := range encodings[1:] {
		list = append(list, c.l)
	}
	for _, l := range list {
		digits, count, total := reference(l), len(referenceDictionary(l)), 0
		parts := append([]int{7}, slices.Repeat([]int{64}, count)...)
		parts = append(parts, slices.Repeat([]int{referenceWidth(count)}, len(l))...)
		for _, size := range parts {
			for cut := total; cut < total+size; cut++ {
				expectError(t, digits[:cut], len(l), api.ErrEOF, digits[total:cut])
			}
			total += size
		}
		if total != len(digits) {
			t.Fatalf("the parts of %x have %d bits, want %d", l, total, len(digits))
		}
	}
}

// Too few bits for the last part, in the largest dictionaries.
func TestGetOfCutLargeDictionaries(t *testing.T) {
	for _, count := range []int{127, 128} {
		l := distinct(count)
		digits := reference(l)
		for missing := 1; missing <= 7; missing++ {
			expectError(t, digits[:len(digits)-missing], count, api.ErrEOF, digits[len(digits)-7:len(digits)-missing])
		}
		values := digits[:7+64*count]
		expectError(t, values, count, api.ErrEOF, "")
		expectError(t, values[:len(values)-1], count, api.ErrEOF, values[len(values)-64:len(values)-1])
	}
}

// Too many values, up to a number for which there could be no memory.
func TestGetOfTooManyValues(t *testing.T) {
	for _, n := range append(longNumbers, 3, 4, 1000) {
		expectError(t, "", n, api.ErrEOF, "")
		expectError(t, ones(6), n, api.ErrEOF, ones(6))
		expectError(t, zeros(7)+zeros(63), n, api.ErrEOF, zeros(63))
		expectError(t, dictionaryDigits(4, 5), n, api.ErrEOF, "")
		expectError(t, dictionaryDigits(4, 5)+"10", n, api.ErrEOF, "")
		expectError(t, dictionaryDigits(4, 5, 6)+"10"+"01"+"1", n, api.ErrEOF, "1")
		expectError(t, dictionaryDigits(4, 4), n, api.ErrCanonical, "")
		expectError(t, dictionaryDigits(4, 5, 6)+"10"+"11"+"1", n, api.ErrCanonical, "1")
	}
}

// Equal values have the same encoding, however many they are.
func TestGetOfEqualValues(t *testing.T) {
	for _, value := range []uint64{0, 3, 1 << 63, allOnes} {
		for _, n := range []int{1, 2, 127, 128, 129, 1000, 100000} {
			l := slices.Repeat([]uint64{value}, n)
			expectRead(t, dictionaryDigits(value)+"1", n, l, "1")
			if got := written(t, "", l); got != dictionaryDigits(value) {
				t.Errorf("Put of %d equal values writes %s", n, got)
			}
		}
	}
}

// Nothing is promised for a list this long, but the call ends, and it returns nothing beside the error.
func TestGetOfMoreEqualValuesThanPromised(t *testing.T) {
	for _, n := range longNumbers {
		expectError(t, dictionaryDigits(7)+"1", n, api.ErrLimit, "1")
	}
}

// In a dictionary, every value is greater than the one before; the next one is not read otherwise.
func TestGetRejectsWrongOrder(t *testing.T) {
	for _, c := range []struct {
		values []uint64
		wrong  int
	}{
		{[]uint64{0, 0}, 1}, {[]uint64{1, 0}, 1}, {[]uint64{7, 7}, 1}, {[]uint64{9, 7}, 1}, {[]uint64{allOnes, allOnes}, 1},
		{[]uint64{allOnes, 0}, 1}, {[]uint64{1 << 63, 1}, 1}, {[]uint64{allOnes, math.MaxInt64}, 1},
		{[]uint64{1, 2, 2}, 2}, {[]uint64{1, 2, 1}, 2}, {[]uint64{1, 5, 3}, 2}, {[]uint64{1, 5, 0}, 2},
		{[]uint64{1, 1, 2}, 1}, {[]uint64{2, 1, 3}, 1}, {[]uint64{0, 0, 0}, 1}, {[]uint64{3, 2, 1}, 1},
		{[]uint64{0, 1 << 63, 5, allOnes}, 2}, {[]uint64{1, 2, 3, 3}, 3}, {[]uint64{1, 2, 3, 1}, 3},
	} {
		digits := dictionaryDigits(c.values...)
		read := 7 + 64*(c.wrong+1)
		rest := digits[read:] + indexDigits(len(c.values), first(len(c.values))...)
		for _, n := range []int{1, len(c.values), 1000, math.MaxInt} {
			expectError(t, digits[:read]+rest, n, api.ErrCanonical, rest)
			expectError(t, digits[:read], n, api.ErrCanonical, "")
			expectError(t, digits[:read]+"0", n, api.ErrCanonical, "0")
		}
	}
}

// Each neighbor in dictionaries of all sizes is repeated or exchanged.
func TestGetRejectsWrongOrderAnywhere(t *testing.T) {
	for _, count := range counts {
		dictionary := referenceDictionary(distinct(count))
		for i := 1; i < count; i++ {
			repeated, exchanged := slices.Clone(dictionary), slices.Clone(dictionary)
			repeated[i] = repeated[i-1]
			exchanged[i], exchanged[i-1] = exchanged[i-1], exchanged[i]
			for _, wrong := range [][]uint64{repeated, exchanged} {
				digits := dictionaryDigits(wrong...) + indexDigits(count, first(count)...)
				expectError(t, digits, count, api.ErrCanonical, digits[7+64*(i+1):])
			}
		}
	}
}

// Values that differ in one bit are in order if the second one has it.
func TestGetComparesAllBits(t *testing.T) {
	for i := range 64 {
		for _, low := range []uint64{0, 0x5555555555555555, 0x0123456789abcdef} {
			low &^= 1 << i
			high := low | 1<<i
			expectRead(t, dictionaryDigits(low, high)+"10"+"0", 2, []uint64{high, low}, "0")
			expectError(t, dictionaryDigits(high, low)+"10"+"0", 2, api.ErrCanonical, "100")
		}
	}
}

// All indices of dictionaries of all sizes that are not those of a value; no bit after them is read.
func TestGetRejectsWrongIndices(t *testing.T) {
	for _, count := range counts {
		digits := dictionaryDigits(referenceDictionary(distinct(count))...)
		for i := count; i < 1<<referenceWidth(count); i++ {
			for _, before := range [][]int{nil, {0}, {count - 1, 0}, first(count)} {
				wrong := digits + indexDigits(count, append(before, i)...)
				for _, n := range []int{1, 2, 1000, math.MaxInt} {
					n = max(n, len(before)+1)
					expectError(t, wrong, n, api.ErrCanonical, "")
					expectError(t, wrong+"1", n, api.ErrCanonical, "1")
				}
			}
		}
	}
}

// All indices of dictionaries of all sizes that are those of a value, before the others.
func TestGetAcceptsIndices(t *testing.T) {
	for _, count := range counts {
		dictionary := referenceDictionary(distinct(count))
		for i := range count {
			indices := append([]int{i}, first(count)...)
			digits := dictionaryDigits(dictionary...) + indexDigits(count, indices...)
			expectRead(t, digits+"1", count+1, append([]uint64{dictionary[i]}, dictionary...), "1")
		}
	}
}

// Each value of dictionaries of all sizes is left out; all indices are read before.
func TestGetRejectsUnusedValues(t *testing.T) {
	for _, count := range counts[1:] {
		digits := dictionaryDigits(referenceDictionary(distinct(count))...)
		for i := range count {
			indices := slices.Delete(first(count), i, i+1)
			for _, more := range [][]int{nil, {indices[0]}, indices} {
				unused := digits + indexDigits(count, append(more, indices...)...)
				n := len(more) + len(indices)
				expectError(t, unused, n, api.ErrCanonical, "")
				expectError(t, unused+"1", n, api.ErrCanonical, "1")
				expectError(t, unused[:len(unused)-1], n, api.ErrEOF, unused[len(unused)-referenceWidth(count):len(unused)-1])
			}
		}
	}
}

// A dictionary may have more values than are asked for; then some of them cannot be used.
func TestGetOfFewerValuesThanDictionary(t *testing.T) {
	for _, count := range counts[1:] {
		dictionary := referenceDictionary(distinct(count))
		digits := dictionaryDigits(dictionary...)
		width := referenceWidth(count)
		for n := 1; n < count; n++ {
			rest := indexDigits(count, first(count)[n:]...)
			expectError(t, digits+indexDigits(count, first(n)...)+rest, n, api.ErrCanonical, rest)
			expectError(t, digits+indexDigits(count, first(n-1)...)+zeros(width-1), n, api.ErrEOF, zeros(width-1))
		}
		expectRead(t, digits+indexDigits(count, first(count)...), count, dictionary, "")
	}
}

// The last value of the dictionary may be used by the last index only.
func TestGetReadsUntilAllIndices(t *testing.T) {
	digits := dictionaryDigits(4, 5) + "00001" + "01"
	for n := 1; n < 5; n++ {
		expectError(t, digits, n, api.ErrCanonical, digits[7+128+n:])
	}
	expectRead(t, digits, 5, []uint64{4, 4, 4, 4, 5}, "01")
	expectRead(t, digits, 6, []uint64{4, 4, 4, 4, 5, 4}, "1")
	expectRead(t, digits, 7, []uint64{4, 4, 4, 4, 5, 4, 5}, "")
	expectError(t, digits, 8, api.ErrEOF, "")
}

// The bits are read in order: what comes first is reported.
func TestFirstErrorOfGet(t *testing.T) {
	expectError(t, dictionaryDigits(5, 5, 5), -1, api.ErrArg, dictionaryDigits(5, 5, 5))
	wrongOrder := dictionaryDigits(5, 5, 9)[:7+128]
	expectError(t, wrongOrder, 3, api.ErrCanonical, "")
	expectError(t, wrongOrder+"11", 3, api.ErrCanonical, "11")
	for cut := range 64 {
		missing := wrongOrder[:7+64+cut]
		expectError(t, missing, 3, api.ErrEOF, missing[7+64:])
	}
	right := dictionaryDigits(4, 5, 9)
	expectError(t, right+"1", 1, api.ErrEOF, "1")
	expectError(t, right+"11", 1, api.ErrCanonical, "")
	expectError(t, right+"11"+"1", 3, api.ErrCanonical, "1")
	expectError(t, right+"00"+"1", 2, api.ErrEOF, "1")
	expectError(t, right+"00"+"11"+"01"+"10", 4, api.ErrCanonical, "0110")
	expectError(t, right+"00"+"01"+"10"+"11", 4, api.ErrCanonical, "")
	expectRead(t, right+"00"+"01"+"10"+"11", 3, []uint64{4, 5, 9}, "11")
}

func TestGetContinuesAfterErrors(t *testing.T) {
	l := []uint64{9, 7, 9}
	r := readerAt(dictionaryDigits(7, 7) + dictionaryDigits(1, 2, 3) + "0111" + dictionaryDigits(8, 9) + "11" + reference(l) + "1")
	for _, c := range []struct {
		n int
		e api.Errno
	}{{2, api.ErrCanonical}, {-1, api.ErrArg}, {4, api.ErrCanonical}, {0, api.OK}, {2, api.ErrCanonical}} {
		if got, e := Get(r, c.n); e != c.e || len(got) != 0 {
			t.Errorf("Get of %d values returns %x and %v, want %v", c.n, got, e, c.e)
		}
	}
	if got, e := Get(r, 3); e != api.OK || !slices.Equal(got, l) {
		t.Errorf("Get returns %x and %v, want %x", got, e, l)
	}
	if _, e := Get(r, 1); e != api.ErrEOF {
		t.Errorf("Get returns %v", e)
	}
	expectRest(t, r, "1")
}

// The next list has a dictionary of its own, whose values need not be greater than those before.
func TestGetForgetsDictionaries(t *testing.T) {
	parts := [][]uint64{{9, 8}, {1, 2, 3}, {9}, {9, 9}, {1}, {8, 9}}
	digits := ""
	for _, l := range parts {
		digits += reference(l)
	}
	r := readerAt(digits)
	for _, l := range parts {
		if got, e := Get(r, len(l)); e != api.OK || !slices.Equal(got, l) {
			t.Errorf("Get returns %x and %v, want %x", got, e, l)
		}
	}
	expectRest(t, r, "")
}

func TestResultsShareNoMemory(t *testing.T) {
	for _, l := range [][]uint64{{1, 1, 4, 9}, {1, 4, 9}, {7, 7, 7}} {
		digits := reference(l) + reference(l)
		r := readerAt(digits)
		one, _ := Get(r, len(l))
		clear(one)
		two, _ := Get(r, len(l))
		if !slices.Equal(two, l) {
			t.Errorf("Get returns %x, want %x", two, l)
		}
		clear(two)
		expectRead(t, digits, len(l), l, reference(l))
	}
}

// P8.4

func TestGetInvertsPut(t *testing.T) {
	for i, l := range lists() {
		before, rest := strings.Repeat("01", i%5), strings.Repeat("110", i%4)
		w := writerOf(before)
		if e := Put(w, l); e != api.OK {
			t.Fatalf("Put of %x returns %v", l, e)
		}
		for _, c := range rest {
			w.Bits(uint64(c-'0'), 1)
		}
		r := bitio.NewReader(w.Bytes())
		r.Bits(len(before))
		got, e := Get(r, len(l))
		if e != api.OK || !slices.Equal(got, l) {
			t.Fatalf("Get returns %x and %v, want %x", got, e, l)
		}
		if left := 8*len(w.Bytes()) - len(before) - Size(l); r.Left() != left {
			t.Errorf("%d bits remain after %x, want %d", r.Left(), l, left)
		}
	}
}

func TestGetInvertsPutForFloats(t *testing.T) {
	zero, negativeZero := math.Float64bits(0), math.Float64bits(math.Copysign(0, -1))
	nan := math.Float64bits(math.NaN())
	l := []uint64{zero, negativeZero, zero, zero, nan, nan, nan + 1, 0x7ff0000000000001, 0xfff8000000000000}
	if got := written(t, "", l); len(got) != 7+6*64+9*3 {
		t.Errorf("Put of %x writes %d bits", l, len(got))
	}
	expectRead(t, written(t, "", l), len(l), l, "")
}

// Whatever Get accepts is the encoding of its result, and whatever it rejects is none,
// among dictionaries and indices that are often, but not always, those of a list.
func TestGetEqualsReference(t *testing.T) {
	source := rand.New(rand.NewSource(81))
	count := map[api.Errno]int{}
	for range 30000 {
		digits, n := nearlyEncoding(source)
		l, want, rest := referenceGet(digits, n)
		expectGet(t, digits, n, l, want, rest)
		if want == api.OK && written(t, "", l)+rest != digits {
			t.Fatalf("Get of %d values from %s accepts another encoding", n, digits)
		}
		count[want]++
	}
	for _, e := range []api.Errno{api.OK, api.ErrEOF, api.ErrCanonical} {
		if count[e] < 1000 {
			t.Errorf("only %d results are %v", count[e], e)
		}
	}
}

// nearlyEncoding returns a dictionary, seldom in a wrong order, and indices, the last of which is often cut,
// and a number near that of the indices.
func nearlyEncoding(source *rand.Rand) (string, int) {
	size := 1 + source.Intn(6)
	dictionary := referenceDictionary(distinct(size))
	if source.Intn(8) == 0 {
		dictionary[source.Intn(size)] = dictionary[source.Intn(size)]
	}
	digits := dictionaryDigits(dictionary...)
	n := source.Intn(4 * size)
	for range n {
		i := source.Intn(size)
		if source.Intn(30) == 0 {
			i = source.Intn(1 << referenceWidth(size))
		}
		digits += indexDigits(size, i)
	}
	digits += binary(source.Uint64(), 64)[:source.Intn(3)]
	switch source.Intn(4) {
	case 0:
		n = max(0, n-source.Intn(3))
	case 1:
		n += source.Intn(3)
	case 2:
		digits = digits[:len(digits)-source.Intn(len(digits)+1)]
	}
	return digits, n
}

func TestGetOfAnyBits(t *testing.T) {
	source := rand.New(rand.NewSource(82))
	for range 20000 {
		b := make([]byte, source.Intn(50))
		source.Read(b)
		if len(b) > 0 {
			b[0] >>= source.Intn(8)
		}
		n := source.Intn(40)
		l, want, rest := referenceGet(bitsOf(b), n)
		expectGet(t, bitsOf(b), n, l, want, rest)
	}
}

// Every change of one or two bits yields the encoding of other values, or an error.
func TestGetOfChangedBits(t *testing.T) {
	for _, l := range [][]uint64{{7, 7, 9, 8, 8, 8, 1}, {5, 1, 5, 2, 3, 4}, {3, 3, 3}} {
		digits := reference(l)
		for i := range digits {
			for j := i; j < len(digits); j++ {
				b := []byte(digits)
				b[i] ^= 1
				if j > i {
					b[j] ^= 1
				}
				changed, want, rest := referenceGet(string(b), len(l))
				if slices.Equal(changed, l) {
					t.Fatalf("%s and %s are encodings of %x", digits, b, l)
				}
				expectGet(t, string(b), len(l), changed, want, rest)
			}
		}
	}
}

// P1, P2

func TestCallsAreIndependent(t *testing.T) {
	var group sync.WaitGroup
	for _, l := range lists()[200:400] {
		group.Go(func() {
			w := bitio.NewWriter()
			Put(w, l)
			got, e := Get(bitio.NewReader(w.Bytes()), len(l))
			if e != api.OK || !slices.Equal(got, l) || Size(l) != w.Len() {
				t.Errorf("Get returns %x and %v, want %x", got, e, l)
			}
		})
	}
	group.Wait()
}

func TestSameCallSameResult(t *testing.T) {
	for _, l := range append(lists()[:100], distinct(128)) {
		one, two := bitio.NewWriter(), bitio.NewWriter()
		Put(one, l)
		Put(two, l)
		if !bytes.Equal(one.Bytes(), two.Bytes()) || !slices.Equal(Dictionary(l), Dictionary(l)) {
			t.Errorf("two calls with %x differ", l)
		}
	}
}
