package runval

import (
	"bytes"
	"fmt"
	"math"
	"math/rand"
	"slices"
	"strconv"
	"strings"
	"sync"
	"testing"

	"tsblock/api"
	"tsblock/bitio"
)

const allOnes = math.MaxUint64

// encodings are lists of values with their runs and encodings, written out by hand.
var encodings = []struct {
	l    []uint64
	runs []Run
	bits string
}{
	{nil, nil, ""},
	{[]uint64{0}, []Run{{0, 1}}, zeros(64) + "0000000"},
	{[]uint64{5}, []Run{{5, 1}}, zeros(61) + "101" + "0000000"},
	{[]uint64{allOnes}, []Run{{allOnes, 1}}, ones(64) + "0000000"},
	{[]uint64{1 << 63, 1 << 63}, []Run{{1 << 63, 2}}, "1" + zeros(63) + "0000001"},
	{[]uint64{7, 7, 9}, []Run{{7, 2}, {9, 1}}, zeros(61) + "111" + "0000001" + zeros(60) + "1001" + "0000000"},
	{[]uint64{0, 0, 0, 1}, []Run{{0, 3}, {1, 1}}, zeros(64) + "0000010" + zeros(63) + "1" + "0000000"},
	// A value that comes back begins a run again.
	{[]uint64{3, 0, 3}, []Run{{3, 1}, {0, 1}, {3, 1}},
		zeros(62) + "11" + "0000000" + zeros(64) + "0000000" + zeros(62) + "11" + "0000000"},
	{[]uint64{1, 1, 2, 2, 1, 1}, []Run{{1, 2}, {2, 2}, {1, 2}},
		zeros(63) + "1" + "0000001" + zeros(62) + "10" + "0000001" + zeros(63) + "1" + "0000001"},
	// Values that differ in their highest bits only, as zero and negative zero do.
	{[]uint64{0, 1 << 63}, []Run{{0, 1}, {1 << 63, 1}}, zeros(64) + "0000000" + "1" + zeros(63) + "0000000"},
	{[]uint64{1, 1<<32 + 1}, []Run{{1, 1}, {1<<32 + 1, 1}},
		zeros(63) + "1" + "0000000" + zeros(31) + "1" + zeros(31) + "1" + "0000000"},
	// The greatest Count, and counts beside it.
	{slices.Repeat([]uint64{1}, 9), []Run{{1, 9}}, zeros(63) + "1" + "0001000"},
	{slices.Repeat([]uint64{1}, 127), []Run{{1, 127}}, zeros(63) + "1" + "1111110"},
	{slices.Repeat([]uint64{1}, 128), []Run{{1, 128}}, zeros(63) + "1" + "1111111"},
	{slices.Repeat([]uint64{1}, 129), []Run{{1, 128}, {1, 1}}, zeros(63) + "1" + "1111111" + zeros(63) + "1" + "0000000"},
	{slices.Repeat([]uint64{1}, 130), []Run{{1, 128}, {1, 2}}, zeros(63) + "1" + "1111111" + zeros(63) + "1" + "0000001"},
	{slices.Repeat([]uint64{0}, 256), []Run{{0, 128}, {0, 128}}, zeros(64) + "1111111" + zeros(64) + "1111111"},
	{slices.Repeat([]uint64{0}, 257), []Run{{0, 128}, {0, 128}, {0, 1}},
		zeros(64) + "1111111" + zeros(64) + "1111111" + zeros(64) + "0000000"},
	{append(slices.Repeat([]uint64{4}, 128), 5, 4), []Run{{4, 128}, {5, 1}, {4, 1}},
		zeros(61) + "100" + "1111111" + zeros(61) + "101" + "0000000" + zeros(61) + "100" + "0000000"},
}

// invalidCounts are those with which a Run stands for no values.
var invalidCounts = []int{0, -1, -2, -127, -128, -129, 129, 130, 255, 256, 257, 1 << 32, 1<<32 + 1, math.MinInt, math.MaxInt}

func zeros(n int) string { return strings.Repeat("0", n) }

func ones(n int) string { return strings.Repeat("1", n) }

// binary returns a number with n binary digits.
func binary(x uint64, n int) string { return fmt.Sprintf("%0*b", n, x) }

// number returns the number with some binary digits.
func number(digits string) uint64 {
	x, err := strconv.ParseUint(digits, 2, 64)
	if err != nil {
		panic(err)
	}
	return x
}

// referenceSplit returns the runs of values, each value of which prolongs the last run or begins one.
func referenceSplit(l []uint64) []Run {
	var runs []Run
	for _, value := range l {
		n := len(runs)
		if n > 0 && runs[n-1].Value == value && runs[n-1].Count < 128 {
			runs[n-1].Count++
		} else {
			runs = append(runs, Run{value, 1})
		}
	}
	return runs
}

// runDigits returns how a run is written.
func runDigits(value uint64, count int) string {
	return binary(value, 64) + binary(uint64(count-1), 7)
}

// reference returns the encoding of values as binary digits.
func reference(l []uint64) string {
	var s strings.Builder
	for _, run := range referenceSplit(l) {
		s.WriteString(runDigits(run.Value, run.Count))
	}
	return s.String()
}

// referenceGet reads n values from binary digits part by part. Whether a run is one of the values so far
// is found by encoding all of them again. It returns the digits that remain.
func referenceGet(digits string, n int) ([]uint64, api.Errno, string) {
	rest := digits
	var l []uint64
	for len(l) < n {
		if len(rest) < 64 {
			return nil, api.ErrEOF, rest
		}
		value := number(rest[:64])
		rest = rest[64:]
		if len(rest) < 7 {
			return nil, api.ErrEOF, rest
		}
		l = append(l, slices.Repeat([]uint64{value}, int(number(rest[:7]))+1)...)
		rest = rest[7:]
		if len(l) > n || reference(l) != digits[:len(digits)-len(rest)] {
			return nil, api.ErrCanonical, rest
		}
	}
	return l, api.OK, rest
}

// written returns what Put writes, after some bits that it must keep.
func written(t *testing.T, before string, l []uint64) string {
	t.Helper()
	w := writerOf(before)
	kept := slices.Clone(l)
	if e := Put(w, l); e != api.OK {
		t.Fatalf("Put of %x returns %v", l, e)
	}
	if !slices.Equal(l, kept) {
		t.Errorf("Put has changed %x to %x", kept, l)
	}
	digits := digitsOf(w)
	if !strings.HasPrefix(digits, before) {
		t.Fatalf("Put of %x has changed the bits %s to %s", l, before, digits)
	}
	return digits[len(before):]
}

func writerOf(digits string) *bitio.Writer {
	w := bitio.NewWriter()
	for _, c := range digits {
		w.Bits(uint64(c-'0'), 1)
	}
	return w
}

func digitsOf(w *bitio.Writer) string { return bitsOf(w.Bytes())[:w.Len()] }

func bitsOf(b []byte) string {
	var s strings.Builder
	for _, c := range b {
		s.WriteString(binary(uint64(c), 8))
	}
	return s.String()
}

// readerAt returns a reader that has the digits left, and nothing else.
func readerAt(digits string) *bitio.Reader {
	skip := (8 - len(digits)%8) % 8
	r := bitio.NewReader(writerOf(ones(skip) + digits).Bytes())
	r.Bits(skip)
	return r
}

// expectGet checks all that Get does.
func expectGet(t *testing.T, digits string, n int, want []uint64, wantError api.Errno, rest string) {
	t.Helper()
	r := readerAt(digits)
	l, e := Get(r, n)
	if e != wantError || !slices.Equal(l, want) {
		t.Errorf("Get of %d values from %s returns %x and %v, want %x and %v", n, digits, l, e, want, wantError)
	}
	expectRest(t, r, rest)
}

// expectRead checks that Get reads values and leaves exactly the rest.
func expectRead(t *testing.T, digits string, n int, want []uint64, rest string) {
	t.Helper()
	expectGet(t, digits, n, want, api.OK, rest)
}

// expectError checks that Get returns an error alone and leaves exactly the rest.
func expectError(t *testing.T, digits string, n int, want api.Errno, rest string) {
	t.Helper()
	expectGet(t, digits, n, nil, want, rest)
}

func expectRest(t *testing.T, r *bitio.Reader, want string) {
	t.Helper()
	var s strings.Builder
	for r.Left() > 0 {
		x, _ := r.Bits(1)
		s.WriteByte('0' + byte(x))
	}
	if s.String() != want {
		t.Errorf("the bits %q remain, want %q", s.String(), want)
	}
}

// lists returns lists of values: all numbers of equal values up to 400, pairs of runs, and many runs of all lengths.
func lists() [][]uint64 {
	source := rand.New(rand.NewSource(7))
	var all [][]uint64
	for n := range 401 {
		value := source.Uint64() >> source.Intn(64)
		all = append(all, slices.Repeat([]uint64{value}, n))
	}
	counts := []int{1, 2, 126, 127, 128, 129, 255, 256, 257}
	for _, first := range counts {
		for _, second := range counts {
			l := slices.Repeat([]uint64{uint64(first)}, first)
			l = append(l, slices.Repeat([]uint64{1 << 63}, second)...)
			all = append(all, l, append(slices.Clone(l), uint64(first)))
		}
	}
	for n := range 130 {
		var few, wild []uint64
		for range n {
			few = append(few, source.Uint64()%3)
			wild = append(wild, source.Uint64()>>source.Intn(64))
		}
		var long []uint64
		for range n % 8 {
			long = append(long, slices.Repeat([]uint64{source.Uint64() % 3}, 1+source.Intn(200))...)
		}
		all = append(all, few, wild, long)
	}
	return all
}

// P7.1

func TestSplitReturnsRuns(t *testing.T) {
	for _, c := range encodings {
		kept := slices.Clone(c.l)
		if got := Split(c.l); !slices.Equal(got, c.runs) {
			t.Errorf("Split of %x returns %x, want %x", c.l, got, c.runs)
		}
		if !slices.Equal(c.l, kept) {
			t.Errorf("Split has changed %x to %x", kept, c.l)
		}
		if got := referenceSplit(c.l); !slices.Equal(got, c.runs) {
			t.Errorf("the reference of %x has the runs %x, want %x", c.l, got, c.runs)
		}
	}
}

func TestSplitOfNothing(t *testing.T) {
	for _, l := range [][]uint64{nil, {}} {
		if got := Split(l); len(got) != 0 {
			t.Errorf("Split of an empty list returns %x", got)
		}
	}
}

func TestSplitEqualsReference(t *testing.T) {
	for _, l := range lists() {
		if got, want := Split(l), referenceSplit(l); !slices.Equal(got, want) {
			t.Fatalf("Split of %x returns %x, want %x", l, got, want)
		}
	}
}

func TestJoinReturnsValues(t *testing.T) {
	for _, c := range encodings {
		kept := slices.Clone(c.runs)
		if got := Join(c.runs); !slices.Equal(got, c.l) {
			t.Errorf("Join of %x returns %x, want %x", c.runs, got, c.l)
		}
		if !slices.Equal(c.runs, kept) {
			t.Errorf("Join has changed %x to %x", kept, c.runs)
		}
	}
	if got := Join([]Run{}); len(got) != 0 {
		t.Errorf("Join of an empty list returns %x", got)
	}
}

func TestJoinOfAllCounts(t *testing.T) {
	for count := -300; count <= 300; count++ {
		var want []uint64
		if count >= 1 && count <= 128 {
			want = slices.Repeat([]uint64{6}, count)
		}
		if got := Join([]Run{{6, count}}); !slices.Equal(got, want) {
			t.Errorf("Join of a Run with the Count %d returns %x", count, got)
		}
	}
}

func TestJoinLeavesOutInvalidRuns(t *testing.T) {
	for _, count := range invalidCounts {
		for _, l := range [][]Run{{{6, count}}, {{0, count}}, {{6, count}, {6, count}}} {
			if got := Join(l); len(got) != 0 {
				t.Errorf("Join of %d returns %x", l, got)
			}
		}
		l := []Run{{6, count}, {1, 2}, {1, count}, {7, count}, {2, 1}, {6, count}}
		if got := Join(l); !slices.Equal(got, []uint64{1, 1, 2}) {
			t.Errorf("Join of %d returns %x", l, got)
		}
	}
}

// Runs need not be as long as possible.
func TestJoinOfShortRuns(t *testing.T) {
	l := []Run{{5, 1}, {5, 2}, {8, 1}, {5, 127}, {5, 128}, {5, 128}}
	want := append([]uint64{5, 5, 5, 8}, slices.Repeat([]uint64{5}, 127+128+128)...)
	if got := Join(l); !slices.Equal(got, want) {
		t.Errorf("Join of %d returns %x", l, got)
	}
}

func TestRunsAndValuesShareNoMemory(t *testing.T) {
	values, runs := []uint64{7, 7, 9}, []Run{{7, 2}, {9, 1}}
	clear(Split(values))
	clear(Join(runs))
	if got := Split(values); !slices.Equal(got, []Run{{7, 2}, {9, 1}}) {
		t.Errorf("Split returns %d", got)
	}
	if got := Join(runs); !slices.Equal(got, []uint64{7, 7, 9}) {
		t.Errorf("Join returns %d", got)
	}
}

// P7.2

func TestPutWritesEncoding(t *testing.T) {
	for _, c := range encodings {
		if got := written(t, "", c.l); got != c.bits {
			t.Errorf("Put of %x writes %s, want %s", c.l, got, c.bits)
		}
		if got := reference(c.l); got != c.bits {
			t.Errorf("the reference of %x is %s, want %s", c.l, got, c.bits)
		}
		if got := Size(c.l); got != len(c.bits) {
			t.Errorf("Size of %x is %d, want %d", c.l, got, len(c.bits))
		}
	}
}

func TestExamplesTake142And71Bits(t *testing.T) {
	for _, c := range []struct {
		l    []uint64
		size int
	}{{[]uint64{7, 7, 9}, 142}, {slices.Repeat([]uint64{math.Float64bits(1.5)}, 9), 71}} {
		if n := Size(c.l); n != c.size {
			t.Errorf("Size of %x is %d, want %d", c.l, n, c.size)
		}
		if got := written(t, "", c.l); len(got) != c.size {
			t.Errorf("Put of %x writes %d bits, want %d", c.l, len(got), c.size)
		}
	}
}

func TestPutEqualsReference(t *testing.T) {
	for i, l := range lists() {
		before := strings.Repeat("101", i%9)
		want := reference(l)
		if got := written(t, before, l); got != want {
			t.Fatalf("Put of %x writes %s, want %s", l, got, want)
		}
		if got := Size(l); got != len(want) {
			t.Fatalf("Size of %x is %d, want %d", l, got, len(want))
		}
	}
}

func TestEmptyListIsNothing(t *testing.T) {
	for _, l := range [][]uint64{nil, {}} {
		if got := written(t, "101", l); got != "" {
			t.Errorf("Put of an empty list writes %s", got)
		}
		if Size(l) != 0 {
			t.Errorf("Size of an empty list is %d", Size(l))
		}
	}
}

func TestPutWithoutWriter(t *testing.T) {
	for _, c := range encodings {
		if e := Put(nil, c.l); e != api.ErrNil {
			t.Errorf("Put of %x to a nil writer returns %v", c.l, e)
		}
	}
	if e := Put(nil, []uint64{}); e != api.ErrNil {
		t.Errorf("Put of an empty list to a nil writer returns %v", e)
	}
}

// The last run of a list does not go on with the next list.
func TestPutAfterPut(t *testing.T) {
	w := bitio.NewWriter()
	want := ""
	for _, c := range append(encodings, encodings...) {
		if e := Put(w, c.l); e != api.OK {
			t.Fatalf("Put returns %v", e)
		}
		want += c.bits
		if got := digitsOf(w); got != want {
			t.Fatalf("%s is written, want %s", got, want)
		}
	}
}

func TestWithinLength(t *testing.T) {
	memory := append(slices.Repeat([]uint64{3}, 130), 4, 4, 4)
	kept := slices.Clone(memory)
	for n := range len(memory) + 1 {
		l, want := memory[:n], slices.Clone(memory[:n])
		if got := written(t, "", l); got != reference(want) || Size(l) != len(reference(want)) {
			t.Errorf("Put of %x writes %s, Size is %d", l, got, Size(l))
		}
		if got := Split(l); !slices.Equal(got, referenceSplit(want)) {
			t.Errorf("Split of %x returns %x", l, got)
		}
	}
	if !slices.Equal(memory, kept) {
		t.Errorf("the memory is changed to %x", memory)
	}
	runs := []Run{{1, 1}, {2, 2}, {3, 3}}
	if got := Join(runs[:2]); !slices.Equal(got, []uint64{1, 2, 2}) {
		t.Errorf("Join of %d returns %x", runs[:2], got)
	}
}

// P7.3

func TestGetReadsEncodings(t *testing.T) {
	for _, c := range encodings {
		for _, rest := range []string{"", "0", "1", ones(80), zeros(80)} {
			expectRead(t, c.bits+rest, len(c.l), c.l, rest)
		}
	}
}

func TestGetOfNothing(t *testing.T) {
	for _, digits := range []string{"", "1", zeros(71), ones(142)} {
		expectRead(t, digits, 0, nil, digits)
	}
}

func TestGetWithoutReader(t *testing.T) {
	for _, n := range []int{0, 1, 2, 129, -1, math.MinInt, math.MaxInt} {
		if l, e := Get(nil, n); len(l) != 0 || e != api.ErrNil {
			t.Errorf("Get of %d values from a nil reader returns %x and %v", n, l, e)
		}
	}
}

func TestGetOfNegativeNumber(t *testing.T) {
	for _, n := range []int{-1, -2, -128, math.MinInt, math.MinInt + 1} {
		for _, digits := range []string{"", "1", zeros(71), ones(142)} {
			expectError(t, digits, n, api.ErrArg, digits)
		}
	}
}

// A part that does not fit is not read; the parts before it are.
func TestGetOfCutEncodings(t *testing.T) {
	for _, c := range encodings {
		total := 0
		for range c.runs {
			for _, size := range []int{64, 7} {
				for cut := total; cut < total+size; cut++ {
					expectError(t, c.bits[:cut], len(c.l), api.ErrEOF, c.bits[total:cut])
				}
				total += size
			}
		}
		if total != len(c.bits) {
			t.Fatalf("the parts of %x have %d bits, want %d", c.l, total, len(c.bits))
		}
	}
}

// Too many values, up to a number for which there could be no memory.
func TestGetOfTooManyValues(t *testing.T) {
	for _, c := range encodings {
		for _, n := range []int{1, 2, 128, 129} {
			expectError(t, c.bits, len(c.l)+n, api.ErrEOF, "")
		}
	}
	for _, n := range []int{1 << 31, math.MaxInt - 1, math.MaxInt} {
		expectError(t, "", n, api.ErrEOF, "")
		expectError(t, ones(63), n, api.ErrEOF, ones(63))
		expectError(t, zeros(64), n, api.ErrEOF, "")
		expectError(t, runDigits(3, 128)+runDigits(3, 128)+"0", n, api.ErrEOF, "0")
	}
}

// All counts and all numbers of values: a run is read whole before it is found to be too long.
func TestGetRejectsTooLongRuns(t *testing.T) {
	for _, value := range []uint64{0, 1, allOnes} {
		for count := 1; count <= 128; count++ {
			for n := 1; n <= 128; n++ {
				digits := runDigits(value, count)
				switch {
				case n < count:
					expectError(t, digits+"101", n, api.ErrCanonical, "101")
				case n == count:
					expectRead(t, digits+"101", n, slices.Repeat([]uint64{value}, n), "101")
				default:
					expectError(t, digits+"101", n, api.ErrEOF, "101")
				}
			}
		}
	}
}

// The values are too many only with a later run.
func TestGetRejectsTooManyValues(t *testing.T) {
	for _, c := range encodings[1:] {
		before := 0
		for i, run := range c.runs {
			rest := c.bits[71*(i+1):] + "1"
			for n := before + 1; n < before+run.Count; n++ {
				expectError(t, c.bits+"1", n, api.ErrCanonical, rest)
			}
			before += run.Count
			expectRead(t, c.bits+"1", before, c.l[:before], rest)
		}
	}
}

// All pairs of counts: a run goes on with the same value only after 128 of them.
func TestGetRejectsDividedRuns(t *testing.T) {
	for _, value := range []uint64{0, 7, allOnes} {
		for first := 1; first <= 128; first++ {
			for second := 1; second <= 128; second++ {
				digits := runDigits(value, first) + runDigits(value, second)
				n := first + second
				if first < 128 {
					expectError(t, digits+"1", n, api.ErrCanonical, "1")
					continue
				}
				expectRead(t, digits+"1", n, slices.Repeat([]uint64{value}, n), "1")
			}
		}
	}
}

// The error comes with the run, even if more values are asked for, and whatever comes before and after it.
func TestGetRejectsDividedRunsAnywhere(t *testing.T) {
	full := runDigits(2, 128)
	for _, before := range []struct {
		digits string
		n      int
	}{{"", 0}, {runDigits(1, 1), 1}, {full, 128}, {full + full, 256}, {runDigits(2, 4) + runDigits(1, 128), 132}} {
		divided := before.digits + runDigits(2, 1) + runDigits(2, 1)
		for _, rest := range []string{"", "1", runDigits(2, 1), runDigits(3, 1)} {
			expectError(t, divided+rest, before.n+2, api.ErrCanonical, rest)
			expectError(t, divided+rest, before.n+3, api.ErrCanonical, rest)
		}
	}
}

// Only the run directly before counts, and only whole values are compared.
func TestGetAcceptsOtherRuns(t *testing.T) {
	for i := range 64 {
		bit := uint64(1) << i
		l := []uint64{9, 9 ^ bit, 9, 9 ^ bit, 9 ^ bit}
		digits := runDigits(9, 1) + runDigits(9^bit, 1) + runDigits(9, 1) + runDigits(9^bit, 2)
		expectRead(t, digits+"1", 5, l, "1")
	}
	first := slices.Repeat([]uint64{0}, 128)
	expectRead(t, runDigits(0, 128)+runDigits(1, 1)+runDigits(0, 1), 130, append(first, 1, 0), "")
}

// The bits are read in order: what comes first is reported.
func TestFirstErrorOfGet(t *testing.T) {
	divided := runDigits(5, 1) + runDigits(5, 2)
	expectError(t, divided, 3, api.ErrCanonical, "")
	expectError(t, divided, 4, api.ErrCanonical, "")
	expectError(t, divided+"10", 4, api.ErrCanonical, "10")
	expectError(t, divided, -1, api.ErrArg, divided)
	for cut := range 7 {
		missing := divided[:64+7+64+cut]
		expectError(t, missing, 2, api.ErrEOF, missing[64+7+64:])
		expectError(t, missing, 3, api.ErrEOF, missing[64+7+64:])
		tooLong := runDigits(5, 128)[:64+cut]
		expectError(t, tooLong, 1, api.ErrEOF, ones(cut))
	}
	expectError(t, runDigits(5, 1)+runDigits(5, 1)[:63], 2, api.ErrEOF, runDigits(5, 1)[:63])
}

func TestGetContinuesAfterErrors(t *testing.T) {
	l := []uint64{7, 7, 9}
	r := readerAt(runDigits(7, 1) + runDigits(7, 1) + runDigits(8, 2) + reference(l) + "1")
	if _, e := Get(r, 2); e != api.ErrCanonical {
		t.Errorf("Get returns %v", e)
	}
	if _, e := Get(r, 1); e != api.ErrCanonical {
		t.Errorf("Get returns %v", e)
	}
	if _, e := Get(r, -1); e != api.ErrArg {
		t.Errorf("Get returns %v", e)
	}
	if got, e := Get(r, 3); e != api.OK || !slices.Equal(got, l) {
		t.Errorf("Get returns %x and %v, want %x", got, e, l)
	}
	if _, e := Get(r, 1); e != api.ErrEOF {
		t.Errorf("Get returns %v", e)
	}
	expectRest(t, r, "1")
}

// The last run of a list is not one before the first run of the next list.
func TestGetForgetsRuns(t *testing.T) {
	r := readerAt(runDigits(4, 2) + runDigits(4, 1) + runDigits(4, 3))
	for _, n := range []int{2, 1, 3} {
		if got, e := Get(r, n); e != api.OK || !slices.Equal(got, slices.Repeat([]uint64{4}, n)) {
			t.Errorf("Get of %d values returns %x and %v", n, got, e)
		}
	}
	expectRest(t, r, "")
}

func TestResultsShareNoMemory(t *testing.T) {
	l := []uint64{1, 1, 4, 9}
	digits := reference(l) + reference(l)
	r := readerAt(digits)
	first, _ := Get(r, 4)
	clear(first)
	second, _ := Get(r, 4)
	if !slices.Equal(second, l) {
		t.Errorf("Get returns %x, want %x", second, l)
	}
	clear(second)
	expectRead(t, digits, 4, l, reference(l))
}

// P7.4

func TestJoinInvertsSplit(t *testing.T) {
	for _, l := range lists() {
		if got := Join(Split(l)); !slices.Equal(got, l) {
			t.Fatalf("Join of the runs of %x returns %x", l, got)
		}
	}
}

func TestGetInvertsPut(t *testing.T) {
	for i, l := range lists() {
		before, rest := strings.Repeat("01", i%5), strings.Repeat("110", i%4)
		w := writerOf(before)
		Put(w, l)
		for _, c := range rest {
			w.Bits(uint64(c-'0'), 1)
		}
		r := bitio.NewReader(w.Bytes())
		r.Bits(len(before))
		got, e := Get(r, len(l))
		if e != api.OK || !slices.Equal(got, l) {
			t.Fatalf("Get returns %x and %v, want %x", got, e, l)
		}
		if left := 8*len(w.Bytes()) - len(before) - Size(l); r.Left() != left {
			t.Errorf("%d bits remain after %x, want %d", r.Left(), l, left)
		}
	}
}

func TestGetInvertsPutForFloats(t *testing.T) {
	zero, negativeZero := math.Float64bits(0), math.Float64bits(math.Copysign(0, -1))
	nan := math.Float64bits(math.NaN())
	l := []uint64{zero, negativeZero, zero, zero, nan, nan, nan + 1, 0x7ff0000000000001, 0xfff8000000000000}
	if got := written(t, "", l); len(got) != 7*71 {
		t.Errorf("Put of %x writes %d bits", l, len(got))
	}
	expectRead(t, written(t, "", l), len(l), l, "")
}

// Whatever Get accepts is the encoding of its result, and whatever it rejects is none,
// among runs that are often, but not always, those of a list.
func TestGetEqualsReference(t *testing.T) {
	source := rand.New(rand.NewSource(71))
	count := map[api.Errno]int{}
	for range 30000 {
		digits, n := nearlyEncoding(source)
		l, want, rest := referenceGet(digits, n)
		expectGet(t, digits, n, l, want, rest)
		if want == api.OK && written(t, "", l)+rest != digits {
			t.Fatalf("Get of %d values from %s accepts another encoding", n, digits)
		}
		count[want]++
	}
	for _, e := range []api.Errno{api.OK, api.ErrEOF, api.ErrCanonical} {
		if count[e] < 1000 {
			t.Errorf("only %d results are %v", count[e], e)
		}
	}
}

// nearlyEncoding returns some runs, the last of which is often cut, and a number near that of their values.
func nearlyEncoding(source *rand.Rand) (string, int) {
	digits, n := "", 0
	for range source.Intn(5) {
		size := 1 + source.Intn(128)
		if source.Intn(2) == 0 {
			size = 128
		}
		digits += runDigits(source.Uint64()%4, size)
		n += size
	}
	digits += binary(source.Uint64(), 64)[:source.Intn(20)]
	switch source.Intn(4) {
	case 0:
		n = max(0, n-source.Intn(200))
	case 1:
		n += source.Intn(3)
	case 2:
		digits = digits[:len(digits)-source.Intn(len(digits)+1)]
	}
	return digits, n
}

func TestGetOfAnyBits(t *testing.T) {
	source := rand.New(rand.NewSource(72))
	for range 20000 {
		b := make([]byte, source.Intn(40))
		source.Read(b)
		n := source.Intn(300)
		l, want, rest := referenceGet(bitsOf(b), n)
		expectGet(t, bitsOf(b), n, l, want, rest)
	}
}

// Every change of a few bits yields the encoding of other values, or an error.
func TestGetOfChangedBits(t *testing.T) {
	l := append([]uint64{7, 7, 9, 8, 8, 8}, slices.Repeat([]uint64{1}, 130)...)
	digits := reference(l)
	for i := range digits {
		for j := i; j < min(i+8, len(digits)); j++ {
			b := []byte(digits)
			b[i] ^= 1
			if j > i {
				b[j] ^= 1
			}
			changed, want, rest := referenceGet(string(b), len(l))
			if slices.Equal(changed, l) {
				t.Fatalf("%s and %s are encodings of %x", digits, b, l)
			}
			expectGet(t, string(b), len(l), changed, want, rest)
		}
	}
}

// P1, P2

func TestCallsAreIndependent(t *testing.T) {
	var group sync.WaitGroup
	for _, l := range lists()[200:400] {
		group.Go(func() {
			w := bitio.NewWriter()
			Put(w, l)
			got, e := Get(bitio.NewReader(w.Bytes()), len(l))
			if e != api.OK || !slices.Equal(got, l) || Size(l) != w.Len() || !slices.Equal(Join(Split(l)), l) {
				t.Errorf("Get returns %x and %v, want %x", got, e, l)
			}
		})
	}
	group.Wait()
}

func TestSameCallSameResult(t *testing.T) {
	for _, l := range lists()[:50] {
		first, second := bitio.NewWriter(), bitio.NewWriter()
		Put(first, l)
		Put(second, l)
		if !bytes.Equal(first.Bytes(), second.Bytes()) || !slices.Equal(Split(l), Split(l)) {
			t.Errorf("two calls with %x differ", l)
		}
	}
}

// The runs stop where the loop over them is left, and can be yielded again from the beginning.
func TestRunsStop(t *testing.T) {
	all := runs([]uint64{1, 1, 2, 3, 3})
	for range 2 {
		var got []Run
		for run := range all {
			got = append(got, run)
			if len(got) == 2 {
				break
			}
		}
		if !slices.Equal(got, []Run{{1, 2}, {2, 1}}) {
			t.Errorf("the runs are %d", got)
		}
	}
}
