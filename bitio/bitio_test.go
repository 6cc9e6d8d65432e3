package bitio

import (
	"bytes"
	"fmt"
	"math"
	"strconv"
	"strings"
	"testing"

	"tsblock/api"
)

// invalidSizes are numbers of bits that no word has.
var invalidSizes = []int{-1, 65, -64, 128, math.MinInt, math.MaxInt}

// digits returns the lowest n binary digits of x, computed without shifts.
func digits(x uint64, n int) string {
	s := fmt.Sprintf("%064b", x)
	return s[len(s)-n:]
}

// pack returns the bytes of a string of binary digits, padded with 0.
func pack(s string) []byte {
	for len(s)%8 != 0 {
		s += "0"
	}
	var b []byte
	for ; s != ""; s = s[8:] {
		x, err := strconv.ParseUint(s[:8], 2, 8)
		if err != nil {
			panic(err)
		}
		b = append(b, byte(x))
	}
	return b
}

// random yields the same numbers in every run (splitmix64).
type random uint64

func (r *random) next() uint64 {
	*r += 0x9e3779b97f4a7c15
	x := uint64(*r)
	x = (x ^ x>>30) * 0xbf58476d1ce4e5b9
	x = (x ^ x>>27) * 0x94d049bb133111eb
	return x ^ x>>31
}

func expectWriter(t *testing.T, w *Writer, bits string) {
	t.Helper()
	if w.Len() != len(bits) {
		t.Errorf("Len is %d, want %d", w.Len(), len(bits))
	}
	if got, want := w.Bytes(), pack(bits); !bytes.Equal(got, want) {
		t.Errorf("Bytes is %x, want %x", got, want)
	}
}

func write(t *testing.T, w *Writer, x uint64, n int) {
	t.Helper()
	if e := w.Bits(x, n); e != api.OK {
		t.Fatalf("Bits(%x, %d) of a writer returns %v", x, n, e)
	}
}

func read(t *testing.T, r *Reader, n int, want uint64) {
	t.Helper()
	if x, e := r.Bits(n); x != want || e != api.OK {
		t.Fatalf("Bits(%d) returns %x and %v, want %x", n, x, e, want)
	}
}

func expectError(t *testing.T, r *Reader, n int, want api.Errno) {
	t.Helper()
	left, end := r.Left(), r.End()
	if x, e := r.Bits(n); x != 0 || e != want {
		t.Errorf("Bits(%d) returns %x and %v, want 0 and %v", n, x, e, want)
	}
	if r.Left() != left || r.End() != end {
		t.Errorf("Bits(%d) has read bits and returned %v", n, want)
	}
}

// P1.1

func TestNewWriterHasNoBits(t *testing.T) {
	w := NewWriter()
	if w == nil {
		t.Fatal("no writer")
	}
	expectWriter(t, w, "")
}

func TestWriterExample(t *testing.T) {
	w := NewWriter()
	write(t, w, 5, 3)
	write(t, w, 1, 2)
	if b := w.Bytes(); w.Len() != 5 || !bytes.Equal(b, []byte{0xa8}) {
		t.Errorf("Len is %d, Bytes is %x", w.Len(), b)
	}
}

func TestWriterAppendsLowestBits(t *testing.T) {
	words := []uint64{0, 1, math.MaxUint64, 1 << 63, 0x0123456789abcdef, 0xaaaaaaaaaaaaaaaa}
	for offset := range 9 {
		for n := range 65 {
			for _, x := range words {
				w := NewWriter()
				write(t, w, math.MaxUint64, offset)
				write(t, w, x, n)
				write(t, w, 1, 1)
				expectWriter(t, w, strings.Repeat("1", offset)+digits(x, n)+"1")
			}
		}
	}
}

func TestWriterRejectsSizes(t *testing.T) {
	w := NewWriter()
	bits := ""
	for _, n := range invalidSizes {
		if e := w.Bits(math.MaxUint64, n); e != api.ErrArg {
			t.Errorf("Bits(x, %d) returns %v", n, e)
		}
		expectWriter(t, w, bits)
		write(t, w, 5, 3)
		bits += "101"
	}
}

func TestWriterAcceptsNoBitsAndAllBits(t *testing.T) {
	w := NewWriter()
	write(t, w, math.MaxUint64, 0)
	expectWriter(t, w, "")
	write(t, w, math.MaxUint64, 64)
	expectWriter(t, w, strings.Repeat("1", 64))
	write(t, w, math.MaxUint64, 0)
	expectWriter(t, w, strings.Repeat("1", 64))
}

func TestBytesAreNewlyAllocated(t *testing.T) {
	w := NewWriter()
	write(t, w, 0xabc, 12)
	first, second := w.Bytes(), w.Bytes()
	first[0], first[1] = 0, 0xff
	if !bytes.Equal(second, []byte{0xab, 0xc0}) {
		t.Errorf("two results share memory: %x", second)
	}
	expectWriter(t, w, "101010111100")
	write(t, w, 0xf, 4)
	if !bytes.Equal(second, []byte{0xab, 0xc0}) {
		t.Errorf("a later write changes a result: %x", second)
	}
	_ = append(second, 0x77)
	write(t, w, 0x12, 8)
	expectWriter(t, w, "1010101111001111"+"00010010")
}

func TestNilWriter(t *testing.T) {
	var w *Writer
	for _, n := range append(invalidSizes, 0, 1, 64) {
		if e := w.Bits(1, n); e != api.ErrNil {
			t.Errorf("Bits(1, %d) returns %v", n, e)
		}
	}
	if w.Len() != 0 || len(w.Bytes()) != 0 {
		t.Error("a nil writer has bits")
	}
}

// P1.2

func TestReaderReadsNumbersAtAllOffsets(t *testing.T) {
	b := []byte{0x01, 0x23, 0x45, 0x67, 0x89, 0xab, 0xcd, 0xef, 0xfe, 0xdc, 0xba}
	all := ""
	for _, x := range b {
		all += digits(uint64(x), 8)
	}
	for offset := range 17 {
		for n := range 65 {
			r := NewReader(b)
			for range offset {
				r.Bits(1)
			}
			want, _ := strconv.ParseUint("0"+all[offset:offset+n], 2, 64)
			read(t, r, n, want)
			if r.Left() != len(all)-offset-n {
				t.Errorf("offset %d, %d bits: Left is %d", offset, n, r.Left())
			}
		}
	}
}

func TestReaderRejectsSizes(t *testing.T) {
	for _, b := range [][]byte{nil, {0xa9}, bytes.Repeat([]byte{0xff}, 100)} {
		r := NewReader(b)
		for _, n := range invalidSizes {
			expectError(t, r, n, api.ErrArg)
		}
		if r.Left() != 8*len(b) {
			t.Errorf("Left is %d", r.Left())
		}
	}
}

func TestReaderEnds(t *testing.T) {
	r := NewReader([]byte{0xa9, 0x40})
	expectError(t, r, 17, api.ErrEOF)
	expectError(t, r, 64, api.ErrEOF)
	read(t, r, 3, 5)
	expectError(t, r, 14, api.ErrEOF)
	read(t, r, 13, 0x940)
	expectError(t, r, 1, api.ErrEOF)
	expectError(t, r, 65, api.ErrArg)
	read(t, r, 0, 0)
	expectError(t, NewReader(nil), 1, api.ErrEOF)
	read(t, NewReader(nil), 0, 0)
}

func TestReaderReadsAllAfterErrors(t *testing.T) {
	r := NewReader([]byte{0xa5, 0x3c, 0x81})
	for _, want := range []uint64{0xa, 0x5, 0x3, 0xc, 0x8, 0x1} {
		expectError(t, r, 25, api.ErrEOF)
		expectError(t, r, -1, api.ErrArg)
		read(t, r, 4, want)
	}
}

func TestReaderKeepsCopy(t *testing.T) {
	memory := []byte{0xab, 0xcd, 0xff, 0xff}
	r := NewReader(memory[:2])
	if r.Left() != 16 {
		t.Errorf("Left is %d", r.Left())
	}
	memory[0], memory[1] = 0, 0
	read(t, r, 16, 0xabcd)
	expectError(t, r, 1, api.ErrEOF)
	if !bytes.Equal(memory, []byte{0, 0, 0xff, 0xff}) {
		t.Errorf("the argument is changed: %x", memory)
	}
}

func TestNilReader(t *testing.T) {
	var r *Reader
	for _, n := range append(invalidSizes, 0, 1, 64) {
		if x, e := r.Bits(n); x != 0 || e != api.ErrNil {
			t.Errorf("Bits(%d) returns %x and %v", n, x, e)
		}
	}
	if r.Left() != 0 {
		t.Errorf("Left is %d", r.Left())
	}
	if e := r.End(); e != api.ErrNil {
		t.Errorf("End returns %v", e)
	}
}

// P1.3

func TestEndOfAllPaddings(t *testing.T) {
	for last := range 256 {
		for used := range 17 {
			r := NewReader([]byte{0xff, byte(last)})
			r.Bits(used)
			want := api.ErrTrailing
			if left := 16 - used; left < 8 && !strings.Contains(digits(uint64(last), left), "1") {
				want = api.OK
			}
			if e := r.End(); e != want {
				t.Errorf("byte %x after %d bits: End returns %v, want %v", last, used, e, want)
			}
		}
	}
}

func TestEndOfWholeBytes(t *testing.T) {
	for n, want := range []api.Errno{api.OK, api.ErrTrailing, api.ErrTrailing} {
		if e := NewReader(make([]byte, n)).End(); e != want {
			t.Errorf("%d bytes 0: End returns %v, want %v", n, e, want)
		}
	}
}

func TestEndReadsNothing(t *testing.T) {
	r := NewReader([]byte{0xa0, 0x00})
	for _, c := range []struct {
		n    int
		want api.Errno
	}{{3, api.ErrTrailing}, {5, api.ErrTrailing}, {1, api.OK}, {7, api.OK}} {
		r.Bits(c.n)
		left := r.Left()
		for range 3 {
			if e := r.End(); e != c.want || r.Left() != left {
				t.Errorf("%d bits remain: End returns %v, then %d", left, e, r.Left())
			}
		}
	}
	r = NewReader([]byte{0x80})
	read(t, r, 1, 1)
	r.End()
	read(t, r, 7, 0)
}

// P1.4

func TestReadsInvertWrites(t *testing.T) {
	source := random(1)
	for count := range 200 {
		w := NewWriter()
		var words []uint64
		var sizes []int
		for range count {
			x, n := source.next(), int(source.next()%65)
			write(t, w, x, n)
			words, sizes = append(words, x), append(sizes, n)
		}
		r := NewReader(w.Bytes())
		for i, n := range sizes {
			want, _ := strconv.ParseUint("0"+digits(words[i], n), 2, 64)
			read(t, r, n, want)
		}
		if r.Left() != len(w.Bytes())*8-w.Len() || r.End() != api.OK {
			t.Fatalf("%d writes: %d bits remain, End returns %v", count, r.Left(), r.End())
		}
	}
}

// P1, P2

func TestObjectsAreIndependent(t *testing.T) {
	a, b := NewWriter(), NewWriter()
	write(t, a, 1, 1)
	write(t, b, 2, 9)
	write(t, a, 0, 3)
	expectWriter(t, a, "1000")
	expectWriter(t, b, "000000010")
	data := []byte{0xf0}
	c, d := NewReader(data), NewReader(data)
	read(t, c, 4, 15)
	read(t, d, 8, 0xf0)
	read(t, c, 4, 0)
	later := NewReader(a.Bytes())
	write(t, a, 15, 4)
	read(t, later, 8, 0x80)
}
