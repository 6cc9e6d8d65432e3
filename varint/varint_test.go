package varint

import (
	"bytes"
	"math"
	"math/big"
	"math/rand"
	"slices"
	"testing"

	"tsblock/api"
)

// encodings are numbers with their encodings, written out by hand.
var encodings = []struct {
	x    uint64
	want string
}{
	{0, "\x00"},
	{1, "\x01"},
	{127, "\x7f"},
	{128, "\x80\x01"},
	{255, "\xff\x01"},
	{256, "\x80\x02"},
	{300, "\xac\x02"},
	{16383, "\xff\x7f"},
	{16384, "\x80\x80\x01"},
	{1<<21 - 1, "\xff\xff\x7f"},
	{1 << 21, "\x80\x80\x80\x01"},
	{1<<32 - 1, "\xff\xff\xff\xff\x0f"},
	{1<<56 - 1, "\xff\xff\xff\xff\xff\xff\xff\x7f"},
	{1 << 56, "\x80\x80\x80\x80\x80\x80\x80\x80\x01"},
	{1<<63 - 1, "\xff\xff\xff\xff\xff\xff\xff\xff\x7f"},
	{1 << 63, "\x80\x80\x80\x80\x80\x80\x80\x80\x80\x01"},
	{math.MaxUint64, "\xff\xff\xff\xff\xff\xff\xff\xff\xff\x01"},
}

// signedEncodings are signed numbers with their encodings, written out by hand.
var signedEncodings = []struct {
	x    int64
	want string
}{
	{0, "\x00"},
	{-1, "\x01"},
	{1, "\x02"},
	{-2, "\x03"},
	{-3, "\x05"},
	{63, "\x7e"},
	{-64, "\x7f"},
	{64, "\x80\x01"},
	{-65, "\x81\x01"},
	{150, "\xac\x02"},
	{math.MaxInt32, "\xfe\xff\xff\xff\x0f"},
	{math.MinInt32, "\xff\xff\xff\xff\x0f"},
	{1 << 62, "\x80\x80\x80\x80\x80\x80\x80\x80\x80\x01"},
	{-1 << 62, "\xff\xff\xff\xff\xff\xff\xff\xff\x7f"},
	{math.MaxInt64, "\xfe\xff\xff\xff\xff\xff\xff\xff\xff\x01"},
	{math.MinInt64, "\xff\xff\xff\xff\xff\xff\xff\xff\xff\x01"},
}

// reference returns the encoding of a number, computed by divisions.
func reference(x *big.Int) []byte {
	var b []byte
	group, rest := new(big.Int), new(big.Int).Set(x)
	for {
		rest.DivMod(rest, big.NewInt(128), group)
		b = append(b, byte(group.Int64()))
		if rest.Sign() == 0 {
			break
		}
	}
	for i := range len(b) - 1 {
		b[i] += 128
	}
	return b
}

// referenceSigned returns the encoding of a signed number.
func referenceSigned(x int64) []byte {
	y := new(big.Int).Mul(big.NewInt(x), big.NewInt(2))
	if x < 0 {
		y.Neg(y).Sub(y, big.NewInt(1))
	}
	return reference(y)
}

// numbers returns all powers of two with their neighbors, and pseudorandom numbers of all sizes.
func numbers() []uint64 {
	list := []uint64{0, math.MaxUint64}
	source := rand.New(rand.NewSource(1))
	for n := range 64 {
		power := uint64(1) << n
		list = append(list, power-1, power, power+1, -power)
		for range 20 {
			list = append(list, source.Uint64()>>n)
		}
	}
	return list
}

// repeat returns n bytes c followed by others.
func repeat(c byte, n int, others ...byte) []byte {
	return append(bytes.Repeat([]byte{c}, n), others...)
}

func expectGet(t *testing.T, b []byte, at int, x uint64, after int, e api.Errno) {
	t.Helper()
	before := slices.Clone(b)
	if gotX, gotAfter, gotE := Get(b, at); gotX != x || gotAfter != after || gotE != e {
		t.Errorf("Get(%x, %d) returns %d, %d and %v, want %d, %d and %v", b, at, gotX, gotAfter, gotE, x, after, e)
	}
	if !bytes.Equal(b, before) {
		t.Errorf("Get(%x, %d) has changed its argument to %x", before, at, b)
	}
}

func expectGetSigned(t *testing.T, b []byte, at int, x int64, after int, e api.Errno) {
	t.Helper()
	before := slices.Clone(b)
	if gotX, gotAfter, gotE := GetSigned(b, at); gotX != x || gotAfter != after || gotE != e {
		t.Errorf("GetSigned(%x, %d) returns %d, %d and %v, want %d, %d and %v", b, at, gotX, gotAfter, gotE, x, after, e)
	}
	if !bytes.Equal(b, before) {
		t.Errorf("GetSigned(%x, %d) has changed its argument to %x", before, at, b)
	}
}

// expectError checks that both functions return an error and no result.
func expectError(t *testing.T, b []byte, at int, e api.Errno) {
	t.Helper()
	expectGet(t, b, at, 0, 0, e)
	expectGetSigned(t, b, at, 0, 0, e)
}

// P2.1

func TestAppendWritesEncoding(t *testing.T) {
	for _, c := range encodings {
		if got := Append(nil, c.x); string(got) != c.want {
			t.Errorf("the encoding of %d is %x, want %x", c.x, got, c.want)
		}
		if got := Size(c.x); got != len(c.want) {
			t.Errorf("the size of %d is %d, want %d", c.x, got, len(c.want))
		}
	}
}

func TestAppendSignedWritesEncoding(t *testing.T) {
	for _, c := range signedEncodings {
		if got := AppendSigned(nil, c.x); string(got) != c.want {
			t.Errorf("the encoding of %d is %x, want %x", c.x, got, c.want)
		}
	}
}

func TestAppendEqualsReference(t *testing.T) {
	for _, x := range numbers() {
		want := reference(new(big.Int).SetUint64(x))
		if got := Append(nil, x); !bytes.Equal(got, want) || Size(x) != len(want) {
			t.Errorf("the encoding of %d is %x, its size is %d, want %x", x, got, Size(x), want)
		}
		if got, want := AppendSigned(nil, int64(x)), referenceSigned(int64(x)); !bytes.Equal(got, want) {
			t.Errorf("the encoding of %d is %x, want %x", int64(x), got, want)
		}
	}
}

func TestSizeAtBounds(t *testing.T) {
	for n := 1; n <= 9; n++ {
		bound := uint64(1) << (7 * n)
		if Size(bound-1) != n || Size(bound) != n+1 {
			t.Errorf("sizes at 2^%d are %d and %d", 7*n, Size(bound-1), Size(bound))
		}
	}
	if Size(0) != 1 || Size(math.MaxUint64) != 10 {
		t.Errorf("the sizes of the least and the greatest number are %d and %d", Size(0), Size(math.MaxUint64))
	}
}

func TestAppendKeepsElements(t *testing.T) {
	for _, room := range []int{0, 1, 5, 100} {
		for _, prefix := range []string{"", "\x00", "\x80", "\xff\xff\xff", "abc"} {
			b := append(make([]byte, 0, len(prefix)+room), prefix...)
			if got := Append(b, 300); string(got) != prefix+"\xac\x02" {
				t.Errorf("Append(%x, 300) returns %x", prefix, got)
			}
			if got := AppendSigned(b, -300); string(got) != prefix+"\xd7\x04" {
				t.Errorf("AppendSigned(%x, -300) returns %x", prefix, got)
			}
			if string(b) != prefix {
				t.Errorf("the elements %x have become %x", prefix, b)
			}
		}
	}
}

// P2.2

func TestGetReadsNumber(t *testing.T) {
	for _, c := range encodings {
		n := len(c.want)
		expectGet(t, []byte(c.want), 0, c.x, n, api.OK)
		expectGet(t, []byte("\xff\x80"+c.want+"\xff"), 2, c.x, 2+n, api.OK)
	}
}

func TestGetRejectsOffsets(t *testing.T) {
	for _, b := range [][]byte{nil, {}, {1}, {0x80}, {1, 2, 3}, repeat(0xff, 20)} {
		for _, at := range []int{-1, -len(b) - 1, len(b) + 1, math.MinInt, math.MaxInt} {
			expectError(t, b, at, api.ErrArg)
		}
	}
}

func TestGetAtAllOffsets(t *testing.T) {
	b := []byte{0x05, 0xac, 0x02, 0x00, 0x80, 0x00, 0x80}
	expectGet(t, b, 0, 5, 1, api.OK)
	expectGet(t, b, 1, 300, 3, api.OK)
	expectGet(t, b, 2, 2, 3, api.OK)
	expectGet(t, b, 3, 0, 4, api.OK)
	expectGet(t, b, 4, 0, 0, api.ErrMinimal)
	expectGet(t, b, 5, 0, 6, api.OK)
	expectGet(t, b, 6, 0, 0, api.ErrEOF)
	expectGet(t, b, 7, 0, 0, api.ErrEOF)
}

func TestGetEndsEarly(t *testing.T) {
	expectError(t, nil, 0, api.ErrEOF)
	expectError(t, []byte{1, 2}, 2, api.ErrEOF)
	for _, c := range encodings {
		for n := range len(c.want) {
			expectError(t, []byte(c.want)[:n:n], 0, api.ErrEOF)
			expectError(t, []byte("\x01"+c.want[:n]), 1, api.ErrEOF)
		}
	}
	for n := range 10 {
		expectError(t, repeat(0x80, n), 0, api.ErrEOF)
		expectError(t, repeat(0xff, n), 0, api.ErrEOF)
	}
}

func TestGetReadsNothingBeyondLength(t *testing.T) {
	memory := []byte{0xac, 0x02, 0x01}
	expectError(t, memory[:1], 0, api.ErrEOF)
	expectError(t, memory[:2], 2, api.ErrEOF)
	expectError(t, memory[:2], 3, api.ErrArg)
}

func TestGetOverflows(t *testing.T) {
	for _, first := range []byte{0x80, 0x81, 0xff} {
		for tenth := 2; tenth < 256; tenth++ {
			for _, others := range [][]byte{nil, {0}, {1}, {0xff}} {
				b := append(repeat(first, 9, byte(tenth)), others...)
				expectError(t, b, 0, api.ErrOverflow)
				expectError(t, append([]byte{7}, b...), 1, api.ErrOverflow)
			}
		}
	}
	expectError(t, repeat(0xff, 1000), 0, api.ErrOverflow)
}

func TestGetRejectsLastByteZero(t *testing.T) {
	for n := 1; n <= 9; n++ {
		for _, c := range []byte{0x80, 0x81, 0xff} {
			expectError(t, repeat(c, n, 0), 0, api.ErrMinimal)
			expectError(t, repeat(c, n, 0, 1), 0, api.ErrMinimal)
		}
	}
	expectGet(t, []byte{0}, 0, 0, 1, api.OK)
	expectGetSigned(t, []byte{0}, 0, 0, 1, api.OK)
	expectGet(t, []byte{0, 0}, 1, 0, 2, api.OK)
	expectGet(t, []byte{0x80, 0}, 1, 0, 2, api.OK)
}

func TestGetReadsBytesInOrder(t *testing.T) {
	expectError(t, repeat(0x80, 9), 0, api.ErrEOF)
	expectError(t, repeat(0x80, 9, 0), 0, api.ErrMinimal)
	expectGet(t, repeat(0x80, 9, 1), 0, 1<<63, 10, api.OK)
	expectError(t, repeat(0x80, 9, 2), 0, api.ErrOverflow)
	expectError(t, repeat(0x80, 10), 0, api.ErrOverflow)
	expectError(t, repeat(0x80, 10, 0), 0, api.ErrOverflow)
}

// P2.3

func TestGetSignedReadsNumber(t *testing.T) {
	for _, c := range signedEncodings {
		n := len(c.want)
		expectGetSigned(t, []byte(c.want), 0, c.x, n, api.OK)
		expectGetSigned(t, []byte("\x80"+c.want+"\x00"), 1, c.x, 1+n, api.OK)
	}
}

func TestGetSignedFollowsGet(t *testing.T) {
	for _, x := range numbers() {
		b := append([]byte{0xff}, referenceSigned(int64(x))...)
		_, after, e := Get(b, 1)
		if e != api.OK || after != len(b) {
			t.Errorf("Get(%x, 1) returns the offset %d and %v", b, after, e)
		}
		expectGetSigned(t, b, 1, int64(x), after, e)
	}
}

// P2.4

func TestGetInvertsAppend(t *testing.T) {
	for _, follows := range []string{"", "\x00", "\x01", "\x80", "\xff\xff"} {
		for _, x := range numbers() {
			b := Append([]byte("\x80\x00"), x)
			expectGet(t, append(b, follows...), 2, x, len(b), api.OK)
			b = AppendSigned([]byte("\x80\x00"), int64(x))
			expectGetSigned(t, append(b, follows...), 2, int64(x), len(b), api.OK)
		}
	}
}

func TestGetInvertsAppendOfMany(t *testing.T) {
	var b []byte
	for _, x := range numbers() {
		b = AppendSigned(Append(b, x), int64(x))
	}
	at := 0
	for _, x := range numbers() {
		middle, end := at+len(Append(nil, x)), at+len(Append(nil, x))+len(AppendSigned(nil, int64(x)))
		expectGet(t, b, at, x, middle, api.OK)
		expectGetSigned(t, b, middle, int64(x), end, api.OK)
		at = end
	}
	if at != len(b) {
		t.Errorf("%d of %d bytes are read", at, len(b))
	}
}

// expectEncoding checks that what Get reads, if anything, is the encoding of its result.
func expectEncoding(t *testing.T, b []byte) {
	t.Helper()
	x, after, e := Get(b, 0)
	if e == api.OK && !bytes.Equal(b[:after], reference(new(big.Int).SetUint64(x))) {
		t.Errorf("Get(%x, 0) accepts %x as %d", b, b[:after], x)
	}
	y, after, e := GetSigned(b, 0)
	if e == api.OK && !bytes.Equal(b[:after], referenceSigned(y)) {
		t.Errorf("GetSigned(%x, 0) accepts %x as %d", b, b[:after], y)
	}
}

func TestGetAcceptsOnlyEncodings(t *testing.T) {
	for i := range 1 << 16 {
		expectEncoding(t, []byte{byte(i), byte(i >> 8)})
	}
	choices := []byte{0x00, 0x01, 0x02, 0x7f, 0x80, 0x81, 0xff}
	source := rand.New(rand.NewSource(2))
	for range 100000 {
		b := make([]byte, source.Intn(13))
		for i := range b {
			b[i] = choices[source.Intn(len(choices))]
		}
		for i := range source.Intn(len(b) + 1) {
			b[i] |= 0x80
		}
		expectEncoding(t, b)
	}
}

// P1, P2

func TestResultsAreIndependent(t *testing.T) {
	first, second := Append(nil, 300), Append(nil, 300)
	first[0] = 0
	if !bytes.Equal(second, []byte{0xac, 0x02}) {
		t.Errorf("two results share memory: %x", second)
	}
	b := []byte{0xac, 0x02}
	x, _, _ := Get(b, 0)
	b[0] = 0
	if x != 300 {
		t.Errorf("a result has become %d", x)
	}
}
