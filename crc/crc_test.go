package crc

import (
	"bytes"
	"encoding/binary"
	"hash/crc32"
	"math"
	"math/rand"
	"slices"
	"sync"
	"testing"
)

// knownSums are checksums published elsewhere.
var knownSums = []struct {
	text string
	want uint32
}{
	{"", 0},
	{"\x00", 0xd202ef8d},
	{"\xff", 0xff000000},
	{"a", 0xe8b7be43},
	{"abc", 0x352441c2},
	{"\x00\x00\x00\x00", 0x2144df1c},
	{"\xff\xff\xff\xff", 0xffffffff},
	{"123456789", 0xcbf43926},
	{"The quick brown fox jumps over the lazy dog", 0x414fa339},
}

// reference returns the state after some bytes, computed bit by bit as the chapter says.
func reference(state uint32, b []byte) uint32 {
	for _, c := range b {
		state ^= uint32(c)
		for range 8 {
			out := state & 1
			state >>= 1
			if out == 1 {
				state ^= 0xedb88320
			}
		}
	}
	return state
}

func referenceSum(b []byte) uint32 { return ^reference(math.MaxUint32, b) }

// referenceAppend returns the elements of b with their checksum, computed bit by bit.
func referenceAppend(b []byte) []byte {
	return binary.LittleEndian.AppendUint32(slices.Clone(b), referenceSum(b))
}

// randomBytes returns n bytes that are the same in every run.
func randomBytes(source *rand.Rand, n int) []byte {
	b := make([]byte, n)
	for i := range b {
		b[i] = byte(source.Intn(256))
	}
	return b
}

// states returns states with a single bit, with all others, and pseudorandom ones.
func states() []uint32 {
	list := []uint32{0, math.MaxUint32, 0xedb88320, 0x12345678}
	source := rand.New(rand.NewSource(1))
	for n := range 32 {
		list = append(list, 1<<n, ^(uint32(1) << n), source.Uint32())
	}
	return list
}

func expectUpdate(t *testing.T, state uint32, b []byte) {
	t.Helper()
	before := slices.Clone(b)
	if got, want := Update(state, b), reference(state, b); got != want {
		t.Errorf("the state after %08x and %x is %08x, want %08x", state, b, got, want)
	}
	if !bytes.Equal(b, before) {
		t.Errorf("Update has changed its argument %x to %x", before, b)
	}
}

func expectCheck(t *testing.T, b []byte, want bool) {
	t.Helper()
	before := slices.Clone(b)
	if got := Check(b); got != want {
		t.Errorf("Check(%x) is %v", b, got)
	}
	if !bytes.Equal(b, before) {
		t.Errorf("Check has changed its argument %x to %x", before, b)
	}
}

// P3.1

func TestKnownSums(t *testing.T) {
	for _, c := range knownSums {
		if got := Sum([]byte(c.text)); got != c.want {
			t.Errorf("the checksum of %q is %08x, want %08x", c.text, got, c.want)
		}
	}
	if Sum(nil) != 0 || Sum([]byte{}) != 0 {
		t.Error("the checksum of the empty string is not 0")
	}
}

func TestUpdateOfNothing(t *testing.T) {
	for _, state := range states() {
		if Update(state, nil) != state || Update(state, []byte{}) != state {
			t.Errorf("the state %08x changes without bytes", state)
		}
	}
}

func TestUpdateOfEachByte(t *testing.T) {
	for _, state := range states() {
		for c := range 256 {
			expectUpdate(t, state, []byte{byte(c)})
		}
	}
}

func TestUpdateOfManyBytes(t *testing.T) {
	source := rand.New(rand.NewSource(2))
	for n := range 300 {
		b := randomBytes(source, n)
		expectUpdate(t, source.Uint32(), b)
		if got, want := Sum(b), crc32.ChecksumIEEE(b); got != want {
			t.Errorf("the checksum of %x is %08x, want %08x", b, got, want)
		}
	}
	long := randomBytes(source, 1<<20)
	if got, want := Sum(long), crc32.ChecksumIEEE(long); got != want {
		t.Errorf("the checksum of a long string is %08x, want %08x", got, want)
	}
}

func TestUpdateInParts(t *testing.T) {
	b := randomBytes(rand.New(rand.NewSource(3)), 40)
	for _, state := range states() {
		whole := Update(state, b)
		for n := range len(b) + 1 {
			if got := Update(Update(state, b[:n]), b[n:]); got != whole {
				t.Errorf("the state after %d and %d bytes is %08x, want %08x", n, len(b)-n, got, whole)
			}
		}
	}
}

func TestSumIsComplementOfState(t *testing.T) {
	b := []byte("some bytes")
	if got, want := Sum(b), ^Update(math.MaxUint32, b); got != want {
		t.Errorf("the checksum is %08x, want %08x", got, want)
	}
	if Sum(b) == Update(math.MaxUint32, b) || Sum(b) == ^Update(0, b) {
		t.Error("the checksum begins or ends with a wrong state")
	}
}

// P3.2

func TestAppendExamples(t *testing.T) {
	for text, want := range map[string]string{
		"":          "\x00\x00\x00\x00",
		"\x00":      "\x00\x8d\xef\x02\xd2",
		"123456789": "123456789\x26\x39\xf4\xcb",
	} {
		if got := Append([]byte(text)); string(got) != want {
			t.Errorf("Append(%q) is %x, want %x", text, got, want)
		}
		expectCheck(t, []byte(want), true)
	}
	if got := Append(nil); !bytes.Equal(got, make([]byte, 4)) {
		t.Errorf("Append(nil) is %x", got)
	}
}

func TestAppendOfManyBytes(t *testing.T) {
	source := rand.New(rand.NewSource(4))
	for n := range 300 {
		b := randomBytes(source, n)
		if got, want := Append(b), referenceAppend(b); !bytes.Equal(got, want) {
			t.Errorf("Append(%x) is %x, want %x", b, got, want)
		}
		expectCheck(t, Append(b), true)
		expectCheck(t, referenceAppend(b), true)
	}
}

func TestAppendIsNewlyAllocated(t *testing.T) {
	for _, room := range []int{0, 1, 4, 100} {
		memory := bytes.Repeat([]byte{0x77}, 5+room)
		copy(memory, "bytes")
		before := slices.Clone(memory)
		first := Append(memory[:5])
		second := Append(memory[:5])
		if !bytes.Equal(memory, before) {
			t.Errorf("Append has changed its argument's memory to %x", memory)
		}
		for i := range first {
			first[i]++
		}
		first = append(first, 1, 2, 3, 4)
		if !bytes.Equal(memory, before) || !bytes.Equal(second, referenceAppend([]byte("bytes"))) {
			t.Errorf("a result shares memory: %x and %x", memory, second)
		}
		memory[0] = 0
		if !bytes.Equal(second, referenceAppend([]byte("bytes"))) {
			t.Errorf("a result shares memory with the argument: %x", second)
		}
	}
}

func TestCheckOfShortStrings(t *testing.T) {
	sum := referenceAppend(nil)
	for n := range 4 {
		expectCheck(t, sum[:n], false)
		expectCheck(t, bytes.Repeat([]byte{0xff}, n), false)
	}
	expectCheck(t, nil, false)
	expectCheck(t, []byte{}, false)
	expectCheck(t, sum, true)
	expectCheck(t, []byte{0, 0, 0, 1}, false)
	expectCheck(t, []byte{1, 0, 0, 0}, false)
	expectCheck(t, []byte{0xff, 0xff, 0xff, 0xff}, false)
}

func TestCheckRejectsOtherForms(t *testing.T) {
	text := []byte("123456789")
	sum := referenceSum(text)
	expectCheck(t, binary.LittleEndian.AppendUint32(slices.Clone(text), sum), true)
	expectCheck(t, binary.BigEndian.AppendUint32(slices.Clone(text), sum), false)
	expectCheck(t, binary.LittleEndian.AppendUint32(slices.Clone(text), ^sum), false)
	expectCheck(t, binary.LittleEndian.AppendUint32(slices.Clone(text), sum+1), false)
	expectCheck(t, binary.LittleEndian.AppendUint32(nil, sum), false)
	expectCheck(t, text, false)
}

func TestCheckComparesEachByte(t *testing.T) {
	for _, text := range []string{"", "a", "123456789"} {
		b := referenceAppend([]byte(text))
		for i := range b {
			for difference := 1; difference < 256; difference++ {
				b[i] ^= byte(difference)
				expectCheck(t, b, false)
				b[i] ^= byte(difference)
			}
		}
		expectCheck(t, b, true)
	}
}

func TestCheckReadsNothingBeyondLength(t *testing.T) {
	memory := append(referenceAppend([]byte("abc")), 1, 2, 3)
	expectCheck(t, memory[:7], true)
	for _, n := range []int{0, 1, 3, 4, 5, 6, 8, 9, 10} {
		expectCheck(t, memory[:n], false)
	}
	expectCheck(t, referenceAppend(nil)[:3], false)
}

// P3.3

func TestCombineExample(t *testing.T) {
	if got := Combine(Sum([]byte("1234")), Sum([]byte("56789")), 5); got != 0xcbf43926 {
		t.Errorf("the combined checksum is %08x", got)
	}
}

func TestCombineOfConcatenations(t *testing.T) {
	b := randomBytes(rand.New(rand.NewSource(5)), 300)
	for n := range len(b) + 1 {
		for _, end := range []int{n, (n + len(b)) / 2, len(b)} {
			if got, want := Combine(Sum(b[:n]), Sum(b[n:end]), end-n), referenceSum(b[:end]); got != want {
				t.Errorf("%d and %d bytes: the combined checksum is %08x, want %08x", n, end-n, got, want)
			}
		}
	}
}

func TestCombineIsStateAfterZeros(t *testing.T) {
	zeros := make([]byte, 1025)
	for _, n := range []int{0, 1, 2, 3, 4, 5, 7, 8, 31, 32, 33, 100, 127, 128, 255, 256, 1023, 1024, 1025} {
		for _, first := range states() {
			want := reference(first, zeros[:n])
			for _, second := range []uint32{0, 1, 0x89abcdef, math.MaxUint32} {
				if got := Combine(first, second, n); got != want^second {
					t.Errorf("Combine(%08x, %08x, %d) is %08x, want %08x", first, second, n, got, want^second)
				}
			}
		}
	}
}

func TestCombineWithNothing(t *testing.T) {
	for _, first := range states() {
		if got := Combine(first, 0, 0); got != first {
			t.Errorf("Combine(%08x, 0, 0) is %08x", first, got)
		}
		if got := Combine(0, first, 1<<20); got != first {
			t.Errorf("Combine(0, %08x, 2^20) is %08x", first, got)
		}
	}
}

func TestCombineOfNegativeNumbers(t *testing.T) {
	for _, n := range []int{-1, -2, -8, math.MinInt32, math.MinInt, math.MinInt + 1} {
		for _, x := range states() {
			if a, b, c := Combine(x, 0, n), Combine(0, x, n), Combine(x, ^x, n); a != 0 || b != 0 || c != 0 {
				t.Errorf("Combine with %08x and %d is %08x, %08x and %08x", x, n, a, b, c)
			}
		}
	}
}

// Combine of a number near 2^63 ends only if its steps follow the digits of the number.
func TestCombineOfHugeNumbers(t *testing.T) {
	source := rand.New(rand.NewSource(6))
	for _, total := range []int{math.MaxInt, math.MaxInt - 1, math.MaxInt/2 + 1, math.MaxInt32, 1 << 30} {
		for range 20 {
			first, n := source.Uint32(), source.Intn(total)
			if got, want := Combine(Combine(first, 0, n), 0, total-n), Combine(first, 0, total); got != want {
				t.Errorf("%08x after %d of %d bytes is %08x, want %08x", first, n, total, got, want)
			}
		}
	}
}

// The polynomial of the checksum is primitive: states recur after 2^32 - 1 bytes 0, and not before.
func TestCombineHasPeriod(t *testing.T) {
	const period = int64(1)<<32 - 1
	for _, first := range states() {
		for _, repeats := range []int64{1, 2, 1 << 30} {
			if got := Combine(first, 0, int(period*repeats)); got != first {
				t.Errorf("%08x after %d periods is %08x", first, repeats, got)
			}
			if got, want := Combine(first, 0, int(period*repeats+3)), reference(first, make([]byte, 3)); got != want {
				t.Errorf("%08x after %d periods and 3 bytes is %08x, want %08x", first, repeats, got, want)
			}
		}
		for _, factor := range []int64{3, 5, 17, 257, 65537} {
			if first != 0 && Combine(first, 0, int(period/factor)) == first {
				t.Errorf("%08x recurs after a fraction of a period", first)
			}
		}
	}
}

// P3.4

// invert inverts the bits of b at which a word has ones, from the bit number at on.
func invert(b []byte, at int, word uint64) {
	for ; word != 0; at, word = at+1, word>>1 {
		b[at/8] ^= byte(word&1) << (at % 8)
	}
}

func TestCheckRejectsInvertedBits(t *testing.T) {
	source := rand.New(rand.NewSource(7))
	for n := range 12 {
		b := referenceAppend(randomBytes(source, n))
		for at := range 8 * len(b) {
			width := min(32, 8*len(b)-at)
			words := []uint64{1, 1<<width - 1, 1<<(width-1) | 1, 0xedb88320 & (1<<width - 1), 0x04c11db7 & (1<<width - 1)}
			for range 200 {
				words = append(words, source.Uint64()&(1<<source.Intn(width+1)-1)|1)
			}
			for _, word := range words {
				invert(b, at, word)
				if Check(b) != (word == 0) {
					t.Errorf("%d bytes with the bits %08x from %d on inverted: Check is %v", len(b), word, at, Check(b))
				}
				invert(b, at, word)
			}
		}
		expectCheck(t, b, true)
	}
}

func TestCheckRejectsAllShortBursts(t *testing.T) {
	b := referenceAppend([]byte("a short string"))
	for at := range 8 * len(b) {
		width := min(12, 8*len(b)-at)
		for word := uint64(1); word < 1<<width; word += 2 {
			invert(b, at, word)
			expectCheck(t, b, false)
			invert(b, at, word)
		}
	}
}

// The polynomial of the checksum, which has 33 bits, is the shortest change that Check accepts.
// That it does so at each bit shows that the bits of a byte are numbered from the least significant one on.
func TestCheckAcceptsPolynomial(t *testing.T) {
	b := referenceAppend([]byte("a short string"))
	for at := range 8*len(b) - 32 {
		invert(b, at, 0x1db710641)
		expectCheck(t, b, true)
		invert(b, at, 0x1db710641)
	}
}

// P1, P2

func TestConcurrentCalls(t *testing.T) {
	b := referenceAppend(randomBytes(rand.New(rand.NewSource(8)), 1000))
	var group sync.WaitGroup
	for range 8 {
		group.Go(func() {
			if !Check(b) || !Check(Append(b)) || Combine(Sum(b[:500]), Sum(b[500:]), len(b)-500) != Sum(b) {
				t.Error("concurrent calls have wrong results")
			}
		})
	}
	group.Wait()
}
