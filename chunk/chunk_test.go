package chunk

import (
	"bytes"
	"fmt"
	"math"
	"math/rand"
	"slices"
	"strings"
	"sync"
	"testing"

	"tsblock/api"
	"tsblock/bitio"
	"tsblock/dictval"
	"tsblock/runval"
	"tsblock/times"
	"tsblock/xorval"
)

const allOnes = math.MaxUint64

// choices are lists of values with the sizes of their encodings and with their tags, computed by hand.
var choices = []struct {
	l     []uint64
	sizes [3]int
	tag   int
}{
	{nil, [3]int{0, 0, 0}, Bits},
	{[]uint64{5}, [3]int{64, 71, 71}, Bits},
	{[]uint64{allOnes}, [3]int{64, 71, 71}, Bits},
	{[]uint64{5, 5, 5}, [3]int{66, 71, 71}, Bits},
	{[]uint64{1, 1, 3}, [3]int{80, 142, 138}, Bits},
	// Equal values: all three sizes are equal, then those of runs and of a dictionary, until a second run begins.
	{repeat(7, 8), [3]int{71, 71, 71}, Bits},
	{repeat(7, 9), [3]int{72, 71, 71}, Runs},
	{repeat(7, 120), [3]int{183, 71, 71}, Runs},
	{repeat(7, 128), [3]int{191, 71, 71}, Runs},
	{repeat(7, 129), [3]int{192, 142, 71}, Dictionary},
	// The size of runs beside that of bits, where a dictionary is larger.
	{twoRuns(10, 55), [3]int{141, 142, 145}, Bits},
	{twoRuns(10, 56), [3]int{142, 142, 145}, Bits},
	{twoRuns(10, 57), [3]int{143, 142, 145}, Runs},
	// All sizes equal, or those of runs and of a dictionary, beside that of bits.
	{twoRuns(7, 58), [3]int{141, 142, 142}, Bits},
	{twoRuns(7, 59), [3]int{142, 142, 142}, Bits},
	{twoRuns(7, 60), [3]int{143, 142, 142}, Runs},
	// The size of a dictionary beside that of bits, which may be that of runs.
	{twoRuns(6, 58), [3]int{140, 142, 141}, Bits},
	{twoRuns(6, 59), [3]int{141, 142, 141}, Bits},
	{twoRuns(6, 60), [3]int{142, 142, 141}, Dictionary},
	{[]uint64{0, 1<<28 - 1, 0}, [3]int{136, 213, 138}, Bits},
	{[]uint64{0, 1<<29 - 1, 0}, [3]int{138, 213, 138}, Bits},
	{[]uint64{0, 1<<30 - 1, 0}, [3]int{140, 213, 138}, Dictionary},
	{[]uint64{0, allOnes, 0}, [3]int{208, 213, 138}, Dictionary},
	// The size of a dictionary beside that of runs, where bits are larger.
	{wide(2, 3), [3]int{146, 142, 141}, Dictionary},
	{append(wide(2, 3), 1<<63|3), [3]int{147, 142, 142}, Runs},
	// Values of which 128 or 129 differ.
	{wide(128, 1), [3]int{64 + 78 + 126*66, 128 * 71, 7 + 128*64 + 128*7}, Bits},
	{wide(128, 10), [3]int{64 + 78 + 126*66 + 128*9, 128 * 71, 7 + 128*64 + 1280*7}, Runs},
	{slices.Repeat(wide(128, 1), 3), [3]int{64 + 78 + 382*66, 384 * 71, 7 + 128*64 + 384*7}, Dictionary},
	{wide(129, 1), [3]int{64 + 78 + 127*66, 129 * 71, -1}, Bits},
	{wide(129, 10), [3]int{64 + 78 + 127*66 + 129*9, 129 * 71, -1}, Runs},
	{slices.Repeat(wide(129, 1), 3), [3]int{64 + 78 + 385*66, 387 * 71, -1}, Bits},
}

// chunks are lists of samples with their tags and encodings, written out by hand but for the padding.
var chunks = []struct {
	l     []api.Sample
	tag   int
	bits  string
	bytes int
}{
	{[]api.Sample{{T: 0, V: 0}}, Bits, "00000001" + "00000000" + zeros(64) + zeros(64), 18},
	{[]api.Sample{{T: -1, V: allOnes}}, Bits, "00000001" + "00000000" + ones(64) + ones(64), 18},
	{[]api.Sample{{T: 1, V: 1 << 63}}, Bits, "00000001" + "00000000" + zeros(63) + "1" + "1" + zeros(63), 18},
	{[]api.Sample{{T: 10, V: 5}, {T: 20, V: 5}, {T: 30, V: 5}}, Bits,
		"00000001" + "00000010" + zeros(60) + "1010" + "100001010" + "0" + zeros(61) + "101" + "0" + "0", 20},
	{[]api.Sample{{T: 0, V: 1}, {T: 0, V: 1}, {T: 0, V: 3}}, Bits,
		"00000001" + "00000010" + zeros(64) + "0" + "0" + zeros(63) + "1" + "0" + "11" + "111110" + "000000" + "1", 21},
	// The difference of these times wraps to -1.
	{[]api.Sample{{T: math.MinInt64, V: 1}, {T: math.MaxInt64, V: 1}}, Bits,
		"00000001" + "00000001" + "1" + zeros(63) + "101111111" + zeros(63) + "1" + "0", 20},
	{at(0, 0, repeat(3, 8)), Bits, "00000001" + "00000111" + zeros(64) + zeros(7) + zeros(62) + "11" + zeros(7), 20},
	{at(7, 0, repeat(1<<63, 9)), Runs,
		"00000010" + "00001000" + zeros(61) + "111" + zeros(8) + "1" + zeros(63) + "0001000", 20},
	{at(5, -1, repeat(0, 9)), Runs,
		"00000010" + "00001000" + zeros(61) + "101" + "101111111" + zeros(7) + zeros(64) + "0001000", 21},
	{at(1000, 60, repeat(1, 119)), Runs,
		"00000010" + "01110110" + zeros(54) + "1111101000" + "100111100" + zeros(117) + zeros(63) + "1" + "1110110", 35},
	{at(1000, 60, repeat(1, 120)), Runs,
		"00000010" + "01110111" + zeros(54) + "1111101000" + "100111100" + zeros(118) + zeros(63) + "1" + "1110111", 35},
	{at(0, 0, slices.Concat(repeat(0, 10), repeat(allOnes, 10))), Runs,
		"00000010" + "00010011" + zeros(64) + zeros(19) + zeros(64) + "0001001" + ones(64) + "0001001", 31},
	// Times that are not in order.
	{[]api.Sample{{T: 5, V: 0}, {T: 3, V: allOnes}, {T: 4, V: 0}}, Dictionary,
		"00000011" + "00000010" + zeros(61) + "101" + "101111110" + "100000011" + "0000001" + zeros(64) + ones(64) + "010", 30},
	{[]api.Sample{{T: 0, V: 1 << 63}, {T: 0, V: 1}, {T: 0, V: 1}, {T: 100, V: 1 << 63}}, Dictionary,
		"00000011" + "00000011" + zeros(64) + "0" + "0" + "110000001100100" +
			"0000001" + zeros(63) + "1" + "1" + zeros(63) + "1001", 30},
}

func zeros(n int) string { return strings.Repeat("0", n) }

func ones(n int) string { return strings.Repeat("1", n) }

func repeat(x uint64, n int) []uint64 { return slices.Repeat([]uint64{x}, n) }

// twoRuns returns n values: one 0, and otherwise a value whose exclusive or with it has a window of some width.
func twoRuns(n, width int) []uint64 { return append([]uint64{0}, repeat(allOnes>>(64-width), n-1)...) }

// wide returns different values, each repeated some times, of which neighbors differ in the highest and the lowest bit.
func wide(count, each int) []uint64 {
	var l []uint64
	for i := range uint64(count) {
		l = append(l, repeat(i<<1|i%2<<63|i%2, each)...)
	}
	return l
}

// at returns samples at regular times.
func at(start, distance int64, values []uint64) []api.Sample {
	var l []api.Sample
	for i, value := range values {
		l = append(l, api.Sample{T: start + int64(i)*distance, V: value})
	}
	return l
}

func timesOf(l []api.Sample) []int64 {
	var ts []int64
	for _, sample := range l {
		ts = append(ts, sample.T)
	}
	return ts
}

func valuesOf(l []api.Sample) []uint64 {
	var values []uint64
	for _, sample := range l {
		values = append(values, sample.V)
	}
	return values
}

// pack returns binary digits as bytes, padded with 0.
func pack(digits string) []byte {
	w := bitio.NewWriter()
	for _, c := range digits {
		w.Bits(uint64(c-'0'), 1)
	}
	return w.Bytes()
}

func digitsOf(w *bitio.Writer) string {
	digits, b := make([]byte, w.Len()), w.Bytes()
	for i := range digits {
		digits[i] = '0' + b[i/8]>>(7-i%8)&1
	}
	return string(digits)
}

func timeDigits(ts []int64) string {
	w := bitio.NewWriter()
	times.Put(w, ts)
	return digitsOf(w)
}

// valueDigits returns how values are written with a tag, and whether they can be.
func valueDigits(tag int, values []uint64) (string, bool) {
	w, e := bitio.NewWriter(), api.OK
	switch tag {
	case 1:
		e = xorval.Put(w, values)
	case 2:
		e = runval.Put(w, values)
	case 3:
		e = dictval.Put(w, values)
	}
	return digitsOf(w), e == api.OK
}

func headDigits(tag, length int) string { return fmt.Sprintf("%08b%08b", tag, length-1) }

// digitsWith returns the digits of samples whose values are written with a tag, which need not be theirs.
func digitsWith(tag int, l []api.Sample) string {
	digits, _ := valueDigits(tag, valuesOf(l))
	return headDigits(tag, len(l)) + timeDigits(timesOf(l)) + digits
}

// referenceTag finds the tag of values by writing them with all tags.
func referenceTag(values []uint64) int {
	best, least := 0, math.MaxInt
	for tag := 3; tag >= 1; tag-- {
		digits, ok := valueDigits(tag, values)
		if ok && len(digits) <= least {
			best, least = tag, len(digits)
		}
	}
	return best
}

// reference returns the encoding of samples.
func reference(l []api.Sample) []byte { return pack(digitsWith(referenceTag(valuesOf(l)), l)) }

// referenceDecode decodes bytes. What follows the values is checked by encoding them again.
func referenceDecode(b []byte) ([]api.Sample, api.Errno) {
	switch {
	case len(b) == 0:
		return nil, api.ErrEOF
	case !slices.Contains([]byte{1, 2, 3}, b[0]):
		return nil, api.ErrKind
	case len(b) == 1:
		return nil, api.ErrEOF
	case b[1] > 119:
		return nil, api.ErrLimit
	}
	r, tag, n := bitio.NewReader(b[2:]), int(b[0]), int(b[1])+1
	ts, e := times.Get(r, n)
	if e != api.OK {
		return nil, e
	}
	var values []uint64
	switch tag {
	case 1:
		values, e = xorval.Get(r, n)
	case 2:
		values, e = runval.Get(r, n)
	case 3:
		values, e = dictval.Get(r, n)
	}
	if e != api.OK {
		return nil, e
	}
	var l []api.Sample
	for i := range n {
		l = append(l, api.Sample{T: ts[i], V: values[i]})
	}
	if !bytes.Equal(pack(digitsWith(tag, l)), b) {
		return nil, api.ErrTrailing
	}
	if referenceTag(values) != tag {
		return nil, api.ErrCanonical
	}
	return l, api.OK
}

// randomValues returns values that are often equal or similar, in a way that depends on kind.
func randomValues(source *rand.Rand, n, kind int) []uint64 {
	few := []uint64{source.Uint64(), source.Uint64(), source.Uint64(), source.Uint64(), source.Uint64()}
	l := []uint64{source.Uint64()}
	for len(l) < n {
		last := l[len(l)-1]
		switch kind {
		case 0:
			l = append(l, last^uint64(source.Intn(8))<<20)
		case 1:
			l = append(l, repeat(source.Uint64(), min(n-len(l), 1+source.Intn(30)))...)
		case 2:
			l = append(l, few[source.Intn(len(few))])
		default:
			l = append(l, source.Uint64())
		}
	}
	return l
}

// randomTimes returns times, of which some are regular, some in order, and some any.
func randomTimes(source *rand.Rand, n, kind int) []int64 {
	l := []int64{source.Int63() - source.Int63()}
	for len(l) < n {
		last := l[len(l)-1]
		switch kind {
		case 0:
			l = append(l, last+60)
		case 1:
			l = append(l, last+int64(source.Intn(1000)))
		case 2:
			l = append(l, last+int64(source.Intn(100000))-50000)
		default:
			l = append(l, int64(source.Uint64()))
		}
	}
	return l
}

func randomSamples(source *rand.Rand, n int) []api.Sample {
	ts, values := randomTimes(source, n, source.Intn(4)), randomValues(source, n, source.Intn(4))
	var l []api.Sample
	for i := range n {
		l = append(l, api.Sample{T: ts[i], V: values[i]})
	}
	return l
}

// lists returns those of the tables and, for each length that a chunk may have, lists of all kinds.
func lists() [][]api.Sample {
	var all [][]api.Sample
	for _, c := range chunks {
		all = append(all, c.l)
	}
	for _, c := range choices {
		if n := len(c.l); n > 0 && n <= 120 {
			all = append(all, at(100, 60, c.l))
		}
	}
	source := rand.New(rand.NewSource(9))
	for n := 1; n <= 120; n++ {
		for range 8 {
			all = append(all, randomSamples(source, n))
		}
	}
	return all
}

// encoded returns the encoding of samples.
func encoded(t *testing.T, l []api.Sample) []byte {
	t.Helper()
	kept := slices.Clone(l)
	b, e := Encode(l)
	if e != api.OK {
		t.Fatalf("Encode of %v returns %v", l, e)
	}
	if !slices.Equal(l, kept) {
		t.Errorf("Encode has changed %v to %v", kept, l)
	}
	return b
}

// expectDecode checks all that Decode does.
func expectDecode(t *testing.T, b []byte, want []api.Sample, wantError api.Errno) {
	t.Helper()
	kept := bytes.Clone(b)
	l, e := Decode(b)
	if e != wantError || !slices.Equal(l, want) {
		t.Errorf("Decode of %x returns %v and %v, want %v and %v", b, l, e, want, wantError)
	}
	if !bytes.Equal(b, kept) {
		t.Errorf("Decode has changed %x to %x", kept, b)
	}
}

// expectError checks that Decode returns an error alone.
func expectError(t *testing.T, b []byte, want api.Errno) {
	t.Helper()
	expectDecode(t, b, nil, want)
}

// expectCut checks that the digits, which must be those of whole bytes, end too early.
func expectCut(t *testing.T, digits string) {
	t.Helper()
	if len(digits)%8 != 0 {
		t.Fatalf("%d digits are padded, so that they do not end where they should", len(digits))
	}
	expectError(t, pack(digits), api.ErrEOF)
}

// P9.1

func TestTags(t *testing.T) {
	if Bits != 1 || Runs != 2 || Dictionary != 3 {
		t.Errorf("the tags are %d, %d and %d", Bits, Runs, Dictionary)
	}
}

func TestSizesAndChoose(t *testing.T) {
	for _, c := range choices {
		kept := slices.Clone(c.l)
		if got := Sizes(c.l); got != c.sizes {
			t.Errorf("Sizes of %x returns %v, want %v", c.l, got, c.sizes)
		}
		if got := Choose(c.l); got != c.tag {
			t.Errorf("Choose of %x returns %d, want %d", c.l, got, c.tag)
		}
		if !slices.Equal(c.l, kept) {
			t.Errorf("%x has been changed to %x", kept, c.l)
		}
	}
	if got := Sizes([]uint64{}); got != [3]int{} || Choose([]uint64{}) != Bits {
		t.Errorf("Sizes of no values returns %v", got)
	}
}

func TestSizesAndChooseEqualReference(t *testing.T) {
	source := rand.New(rand.NewSource(91))
	count := map[int]int{}
	for i := range 2000 {
		l := randomValues(source, 1+source.Intn(400), i%4)
		var want [3]int
		for tag := 1; tag <= 3; tag++ {
			digits, ok := valueDigits(tag, l)
			want[tag-1] = len(digits)
			if !ok {
				want[tag-1] = -1
			}
		}
		if got := Sizes(l); got != want {
			t.Errorf("Sizes of %x returns %v, want %v", l, got, want)
		}
		tag := referenceTag(l)
		if got := Choose(l); got != tag {
			t.Errorf("Choose of %x returns %d, want %d", l, got, tag)
		}
		count[tag]++
		if want[2] < 0 {
			count[-1]++
		}
	}
	for _, k := range []int{Bits, Runs, Dictionary, -1} {
		if count[k] < 200 {
			t.Errorf("only %d lists of the kind %d", count[k], k)
		}
	}
}

// P9.2

func TestEncode(t *testing.T) {
	for _, c := range chunks {
		b := encoded(t, c.l)
		if !bytes.Equal(b, pack(c.bits)) || len(b) != c.bytes || int(b[0]) != c.tag {
			t.Errorf("Encode of %v returns %x, want %x", c.l, b, pack(c.bits))
		}
	}
}

func TestEncodeOfExample(t *testing.T) {
	b := encoded(t, []api.Sample{{T: 10, V: 5}, {T: 20, V: 5}, {T: 30, V: 5}})
	if !bytes.HasPrefix(b, []byte{1, 2}) || Sizes([]uint64{5, 5, 5}) != [3]int{66, 71, 71} {
		t.Errorf("the samples of the example have the encoding %x", b)
	}
}

func TestEncodeEqualsReference(t *testing.T) {
	count := map[byte]int{}
	for _, l := range lists() {
		b := encoded(t, l)
		if !bytes.Equal(b, reference(l)) {
			t.Errorf("Encode of %v returns %x, want %x", l, b, reference(l))
		}
		count[b[0]]++
	}
	for tag := byte(1); tag <= 3; tag++ {
		if count[tag] < 100 {
			t.Errorf("only %d chunks have the tag %d", count[tag], tag)
		}
	}
}

// The lengths next to the bounds, with each of the tags.
func TestEncodeOfLengths(t *testing.T) {
	for tag, values := range map[int][]uint64{Bits: wide(120, 1), Runs: repeat(4, 120), Dictionary: slices.Repeat(wide(3, 1), 40)} {
		l := at(0, 1, values)
		if b := encoded(t, l[:1]); !bytes.HasPrefix(b, []byte{Bits, 0}) || len(b) != 18 {
			t.Errorf("Encode of 1 sample returns %x", b)
		}
		for _, n := range []int{119, 120} {
			if b := encoded(t, l[:n]); !bytes.HasPrefix(b, []byte{byte(tag), byte(n - 1)}) {
				t.Errorf("Encode of %d samples returns %x, want the tag %d", n, b, tag)
			}
		}
	}
}

func TestEncodeErrors(t *testing.T) {
	for _, l := range [][]api.Sample{nil, {}} {
		if b, e := Encode(l); len(b) != 0 || e != api.ErrEmpty {
			t.Errorf("Encode of no samples returns %x and %v", b, e)
		}
	}
	for _, n := range []int{121, 122, 128, 240, 255, 256, 257, 376, 10000} {
		for _, values := range [][]uint64{repeat(5, n), wide(n, 1), slices.Repeat(wide(2, 1), n)[:n]} {
			if b, e := Encode(at(0, 60, values)); len(b) != 0 || e != api.ErrLimit {
				t.Errorf("Encode of %d samples returns %x and %v", n, b, e)
			}
		}
	}
}

// Samples behind the end of a list do not belong to it.
func TestEncodeStaysWithinTheList(t *testing.T) {
	long := at(0, 60, wide(200, 1))
	b := encoded(t, long[:100])
	if !bytes.Equal(b, encoded(t, slices.Clone(long[:100]))) {
		t.Errorf("Encode of the beginning of a list returns %x", b)
	}
	if b, e := Encode(long[:0]); len(b) != 0 || e != api.ErrEmpty {
		t.Errorf("Encode of the beginning of a list returns %x and %v", b, e)
	}
}

// P9.3

func TestDecode(t *testing.T) {
	for _, c := range chunks {
		expectDecode(t, pack(c.bits), c.l, api.OK)
	}
}

func TestDecodeOfNothing(t *testing.T) {
	expectError(t, nil, api.ErrEOF)
	expectError(t, []byte{}, api.ErrEOF)
	expectError(t, pack(chunks[0].bits)[:0], api.ErrEOF)
}

// Every first byte that is no tag, alone and before what would be right or wrong after a tag.
func TestDecodeOfWrongTags(t *testing.T) {
	for tag := range 256 {
		if tag >= 1 && tag <= 3 {
			continue
		}
		expectError(t, []byte{byte(tag)}, api.ErrKind)
		expectError(t, []byte{byte(tag), 120}, api.ErrKind)
		for _, c := range chunks {
			b := pack(c.bits)
			b[0] = byte(tag)
			expectError(t, b, api.ErrKind)
		}
	}
}

func TestDecodeOfLengths(t *testing.T) {
	for tag := byte(1); tag <= 3; tag++ {
		expectError(t, []byte{tag}, api.ErrEOF)
		for last := 0; last < 120; last++ {
			expectError(t, []byte{tag, byte(last)}, api.ErrEOF)
		}
		for last := 120; last < 256; last++ {
			expectError(t, []byte{tag, byte(last)}, api.ErrLimit)
			expectError(t, append([]byte{tag, byte(last)}, make([]byte, 4000)...), api.ErrLimit)
		}
	}
}

// The second byte of 119 and of 120, before as many samples, with each of the tags.
func TestDecodeOfLongChunks(t *testing.T) {
	for tag, values := range map[int][]uint64{1: wide(121, 1), 2: repeat(4, 121), 3: slices.Repeat(wide(11, 1), 11)} {
		l := at(-5, 1, values)
		expectDecode(t, pack(digitsWith(tag, l[:120])), l[:120], api.OK)
		expectError(t, pack(digitsWith(tag, l)), api.ErrLimit)
	}
}

// The encoding ends at every byte: before the tag, before the length, within the times, or within the values.
func TestDecodeOfCutChunks(t *testing.T) {
	for i, l := range lists() {
		if i > 40 && i%30 != 0 {
			continue
		}
		b := encoded(t, l)
		for n := range b {
			expectError(t, b[:n], api.ErrEOF)
		}
	}
}

// A part of the times is not there, whether or not the bytes end within a form.
func TestDecodeOfMissingTimes(t *testing.T) {
	for tag := 1; tag <= 3; tag++ {
		for _, c := range []struct {
			n      int
			digits string
		}{
			{1, ""},
			{1, zeros(56)},
			{120, zeros(56)},
			{2, zeros(64)},
			{120, zeros(64)},
			{10, zeros(64) + zeros(8)},
			{9, zeros(64) + zeros(7) + "1"},
			{7, zeros(64) + zeros(5) + "111"},
			{2, zeros(64) + "10" + "111111"},
			{2, zeros(64) + "1111" + ones(60)},
		} {
			expectCut(t, headDigits(tag, c.n)+c.digits)
		}
	}
}

// A number is not written in its form; the values are not read then.
func TestDecodeOfWrongTimes(t *testing.T) {
	for tag := 1; tag <= 3; tag++ {
		for _, c := range []struct {
			n      int
			digits string
		}{
			{2, zeros(64) + "10" + zeros(7)},
			{2, zeros(64) + "110" + zeros(6) + "000001"},
			{2, zeros(64) + "1110" + zeros(32)},
			{2, zeros(64) + "1111" + ones(64)},
			{3, zeros(64) + "0" + "10" + zeros(7)},
			{120, zeros(64) + "10" + zeros(7)},
		} {
			digits := headDigits(tag, c.n) + c.digits
			for _, rest := range []string{"", ones(300), zeros(3000)} {
				expectError(t, pack(digits+rest), api.ErrCanonical)
			}
		}
	}
}

// A part of the values is not there; the times are equal.
func TestDecodeOfMissingValues(t *testing.T) {
	for _, c := range []struct {
		tag, n int
		digits string
	}{
		{1, 1, ""},
		{1, 2, zeros(63)},
		{1, 9, zeros(64)},
		{1, 8, zeros(64) + "1"},
		{1, 7, zeros(64) + "0" + "1"},
		{1, 2, zeros(64) + "11" + zeros(5)},
		{1, 4, zeros(64) + "11" + zeros(6) + zeros(5)},
		{1, 3, zeros(64) + "11" + zeros(6) + zeros(6)},
		{2, 1, ""},
		{2, 2, zeros(63)},
		{2, 3, zeros(64) + zeros(6)},
		{2, 10, zeros(64) + "0000001"},
		{2, 3, zeros(64) + "0000001" + ones(63)},
		{2, 4, zeros(64) + "0000001" + ones(64) + zeros(6)},
		{3, 1, ""},
		{3, 3, zeros(6)},
		{3, 2, zeros(7)},
		{3, 3, zeros(7) + zeros(63)},
		{3, 3, "0000001" + zeros(64) + ones(63)},
		{3, 9, "0000001" + zeros(64) + ones(64) + "0"},
	} {
		expectCut(t, headDigits(c.tag, c.n)+zeros(64)+zeros(c.n-1)+c.digits)
	}
}

// Each of the encodings refuses values, whatever follows them.
func TestDecodeOfWrongValues(t *testing.T) {
	for _, c := range []struct {
		tag    int
		digits string
	}{
		{1, zeros(64) + "10"},
		{1, zeros(64) + "0" + "10"},
		{1, zeros(64) + "11" + "111111" + "000001"},
		{1, zeros(64) + "11" + "111110" + "000001" + "10"},
		{1, zeros(64) + "11" + "111110" + "000001" + "00"},
		{1, zeros(64) + "11" + "111110" + "000001" + "11" + "11" + "111111" + "000000" + "1"},
		{2, zeros(64) + "0000011"},
		{2, zeros(64) + "1111111"},
		{2, zeros(64) + "0000001" + zeros(64) + "0000000"},
		{2, zeros(64) + "0000001" + ones(64) + "0000001"},
		{3, "0000001" + zeros(64) + zeros(64)},
		{3, "0000001" + ones(64) + zeros(64)},
		{3, "0000010" + zeros(64) + zeros(63) + "1" + ones(64) + "11"},
		{3, "0000001" + zeros(64) + ones(64) + "000"},
		{3, "0000001" + zeros(64) + ones(64) + "111"},
	} {
		digits := headDigits(c.tag, 3) + zeros(64) + "00" + c.digits
		for _, rest := range []string{"", zeros(8), ones(200)} {
			expectError(t, pack(digits+rest), api.ErrCanonical)
		}
	}
}

func TestDecodeOfWrongPadding(t *testing.T) {
	for _, l := range lists() {
		digits := digitsWith(referenceTag(valuesOf(l)), l)
		for i := len(digits); i%8 != 0; i++ {
			expectError(t, pack(digits+zeros(i-len(digits))+"1"), api.ErrTrailing)
		}
	}
}

func TestDecodeOfMoreBytes(t *testing.T) {
	for _, l := range lists() {
		b := reference(l)
		for _, more := range [][]byte{{0}, {1}, {128}, {255}, {0, 0}, make([]byte, 100), b} {
			expectError(t, slices.Concat(b, more), api.ErrTrailing)
		}
	}
}

// The values are written with each of the other tags; wrong padding and bytes after it are reported before.
func TestDecodeOfOtherTags(t *testing.T) {
	count := map[[2]int]int{}
	for _, l := range lists() {
		right := referenceTag(valuesOf(l))
		for tag := 1; tag <= 3; tag++ {
			if tag == right {
				continue
			}
			b := pack(digitsWith(tag, l))
			expectError(t, b, api.ErrCanonical)
			expectError(t, b[:len(b)-1], api.ErrEOF)
			expectError(t, append(bytes.Clone(b), 0), api.ErrTrailing)
			if len(digitsWith(tag, l))%8 != 0 {
				b[len(b)-1] |= 1
				expectError(t, b, api.ErrTrailing)
			}
			count[[2]int{right, tag}]++
		}
	}
	if len(count) != 6 {
		t.Errorf("not all pairs of tags occur: %v", count)
	}
}

// What the chapter mentions first is reported, where several errors apply.
func TestFirstErrorOfDecode(t *testing.T) {
	wrongTimes, wrongValues := zeros(64)+"100000000", zeros(64)+"10"
	expectError(t, pack("00000100"+"01111000"), api.ErrKind)
	expectError(t, pack("00000000"+"00000001"+wrongTimes), api.ErrKind)
	expectError(t, pack("00000001"+"01111000"+wrongTimes), api.ErrLimit)
	expectError(t, pack("00000001"+"00000001"+wrongTimes+wrongValues+"1"), api.ErrCanonical)
	expectError(t, pack("00000001"+"00000001"+zeros(64)), api.ErrEOF)
	expectError(t, pack("00000001"+"00000001"+zeros(64)+"0"+wrongValues+ones(100)), api.ErrCanonical)
	expectError(t, pack("00000010"+"00000000"+zeros(64)+zeros(64)+"0000000"+"1"), api.ErrTrailing)
	expectError(t, pack("00000010"+"00000000"+zeros(64)+zeros(64)+"0000000"), api.ErrCanonical)
}

// Decoding keeps and shares nothing.
func TestDecodeSharesNoMemory(t *testing.T) {
	for _, c := range chunks {
		b := pack(c.bits)
		one, _ := Decode(b)
		two, _ := Decode(b)
		clear(one)
		clear(b)
		if !slices.Equal(two, c.l) {
			t.Errorf("the samples %v have become %v", c.l, two)
		}
		expectDecode(t, pack(c.bits), c.l, api.OK)
	}
}

func TestEncodeSharesNoMemory(t *testing.T) {
	for _, c := range chunks {
		l := slices.Clone(c.l)
		one, two := encoded(t, l), encoded(t, l)
		clear(one)
		clear(l)
		if !bytes.Equal(two, pack(c.bits)) || !bytes.Equal(encoded(t, c.l), two) {
			t.Errorf("the encoding of %v has become %x", c.l, two)
		}
	}
}

// P9.4

func TestSplit(t *testing.T) {
	for _, c := range []struct {
		n    int
		want []int
	}{
		{0, nil}, {1, []int{1}}, {2, []int{2}}, {60, []int{60}}, {119, []int{119}}, {120, []int{120}},
		{121, []int{120, 1}}, {122, []int{120, 2}}, {239, []int{120, 119}}, {240, []int{120, 120}},
		{241, []int{120, 120, 1}}, {360, []int{120, 120, 120}}, {361, []int{120, 120, 120, 1}},
		{1000, []int{120, 120, 120, 120, 120, 120, 120, 120, 40}},
	} {
		l := at(7, -3, wide(c.n, 1))
		kept := slices.Clone(l)
		list := Split(l)
		var lengths []int
		for _, part := range list {
			lengths = append(lengths, len(part))
		}
		if !slices.Equal(lengths, c.want) {
			t.Errorf("Split of %d samples returns lists of %v, want %v", c.n, lengths, c.want)
		}
		if !slices.Equal(slices.Concat(list...), kept) || !slices.Equal(l, kept) {
			t.Errorf("Split of %d samples has changed them", c.n)
		}
	}
	if list := Split([]api.Sample{}); len(list) != 0 {
		t.Errorf("Split of no samples returns %v", list)
	}
}

// Every list is a chunk, and the samples are those of all chunks.
func TestSplitIntoChunks(t *testing.T) {
	source := rand.New(rand.NewSource(94))
	for range 200 {
		l := randomSamples(source, 1+source.Intn(600))
		var again []api.Sample
		for _, part := range Split(l) {
			decoded, e := Decode(encoded(t, part))
			if e != api.OK {
				t.Fatalf("Decode of a chunk of %d samples returns %v", len(part), e)
			}
			again = append(again, decoded...)
		}
		if !slices.Equal(again, l) {
			t.Errorf("the chunks of %d samples have other samples", len(l))
		}
	}
}

// A list may be written, or prolonged, without a change of another one or of the samples that were divided.
func TestSplitSharesNoMemory(t *testing.T) {
	for _, n := range []int{1, 119, 120, 121, 240, 241, 300} {
		l := at(0, 60, wide(n, 1))
		kept := slices.Clone(l)
		list := Split(l)
		for i := range list {
			_ = append(list[i], api.Sample{T: -9, V: 9})
		}
		if !slices.Equal(slices.Concat(list...), kept) || !slices.Equal(l, kept) {
			t.Errorf("the lists of %d samples share memory behind them", n)
		}
		clear(l)
		if !slices.Equal(slices.Concat(list...), kept) {
			t.Errorf("the lists of %d samples share memory with these", n)
		}
		l = slices.Clone(kept)
		list = Split(l)
		for i := range list {
			clear(list[i])
			if rest := slices.Concat(list[i+1:]...); !slices.Equal(l, kept) || !slices.Equal(rest, kept[len(kept)-len(rest):]) {
				t.Errorf("a list of %d samples shares memory", n)
			}
		}
	}
}

// P9.5

func TestDecodeInvertsEncode(t *testing.T) {
	for _, l := range lists() {
		expectDecode(t, encoded(t, l), l, api.OK)
	}
}

func TestDecodeInvertsEncodeForFloats(t *testing.T) {
	zero, negativeZero := math.Float64bits(0), math.Float64bits(math.Copysign(0, -1))
	nan, infinity := math.Float64bits(math.NaN()), math.Float64bits(math.Inf(1))
	values := []uint64{zero, negativeZero, zero, nan, nan + 1, nan, infinity, 0x7ff0000000000001, 0xfff8000000000000}
	for n := 1; n <= len(values); n++ {
		l := at(math.MaxInt64-3, 1, values[:n])
		expectDecode(t, encoded(t, l), l, api.OK)
	}
}

// Times may be in any order, and equal.
func TestDecodeInvertsEncodeForAnyTimes(t *testing.T) {
	for _, ts := range [][]int64{
		{3, 2, 1}, {1, 1, 1}, {5, -5, 5, -5}, {math.MaxInt64, math.MinInt64, math.MaxInt64}, {math.MinInt64, 0, math.MaxInt64, 0},
	} {
		var l []api.Sample
		for i, x := range ts {
			l = append(l, api.Sample{T: x, V: uint64(i)})
		}
		expectDecode(t, encoded(t, l), l, api.OK)
	}
}

// checkDecode compares Decode with the reference, and what it accepts with Encode.
func checkDecode(t *testing.T, b []byte) api.Errno {
	t.Helper()
	l, e := referenceDecode(b)
	expectDecode(t, b, l, e)
	if e == api.OK && !bytes.Equal(encoded(t, l), b) {
		t.Errorf("Decode accepts %x, which is not the encoding of its result", b)
	}
	return e
}

// Every change of one bit of a short chunk, and some of one or two bits of any chunk,
// yield the encoding of other samples, or an error.
func TestDecodeOfChangedBits(t *testing.T) {
	source := rand.New(rand.NewSource(95))
	count := map[api.Errno]int{}
	for _, l := range lists() {
		b := encoded(t, l)
		bits := source.Perm(8 * len(b))
		if len(b) > 50 {
			bits = bits[:10]
		}
		for _, bit := range bits {
			changed := bytes.Clone(b)
			changed[bit/8] ^= 1 << (bit % 8)
			count[checkDecode(t, changed)]++
			changed[source.Intn(len(b))] ^= 1 << source.Intn(8)
			count[checkDecode(t, changed)]++
		}
	}
	for _, e := range []api.Errno{api.OK, api.ErrEOF, api.ErrKind, api.ErrLimit, api.ErrTrailing, api.ErrCanonical} {
		if count[e] < 100 {
			t.Errorf("only %d results are %v", count[e], e)
		}
	}
}

func TestDecodeOfAnyBytes(t *testing.T) {
	source := rand.New(rand.NewSource(96))
	for range 30000 {
		b := make([]byte, source.Intn(60))
		source.Read(b)
		if len(b) > 0 {
			b[0] %= 5
		}
		if len(b) > 1 {
			b[1] >>= source.Intn(9)
		}
		checkDecode(t, b)
	}
}

// Few values that are written with any tag, with few bits after them.
func TestDecodeOfShortChunks(t *testing.T) {
	source := rand.New(rand.NewSource(97))
	count := map[api.Errno]int{}
	for range 20000 {
		l := randomSamples(source, 1+source.Intn(12))
		digits := digitsWith(1+source.Intn(3), l)
		switch source.Intn(3) {
		case 0:
			digits = digits[:len(digits)-source.Intn(20)]
		case 1:
			digits += fmt.Sprintf("%b", source.Intn(16))
		}
		count[checkDecode(t, pack(digits))]++
	}
	for _, e := range []api.Errno{api.OK, api.ErrEOF, api.ErrTrailing, api.ErrCanonical} {
		if count[e] < 1000 {
			t.Errorf("only %d results are %v", count[e], e)
		}
	}
}

// P1, P2

func TestCallsAreIndependent(t *testing.T) {
	var group sync.WaitGroup
	for _, l := range lists()[200:400] {
		group.Go(func() {
			b, e := Encode(l)
			got, f := Decode(b)
			if e != api.OK || f != api.OK || !slices.Equal(got, l) || Choose(valuesOf(l)) != int(b[0]) {
				t.Errorf("Decode returns %v and %v, want %v", got, f, l)
			}
		})
	}
	group.Wait()
}

func TestSameCallSameResult(t *testing.T) {
	for _, l := range lists()[:200] {
		one, two := encoded(t, l), encoded(t, l)
		if !bytes.Equal(one, two) || Sizes(valuesOf(l)) != Sizes(valuesOf(l)) {
			t.Errorf("two calls with %v differ", l)
		}
	}
}
