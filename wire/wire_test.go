package wire

import (
	"bytes"
	"encoding/binary"
	"hash/crc32"
	"math"
	"math/rand"
	"slices"
	"strings"
	"sync"
	"testing"

	"tsblock/api"
)

// referenceNumber returns the encoding of a number, as the standard library writes it.
func referenceNumber(x uint64) []byte { return binary.AppendUvarint(nil, x) }

func referenceString(s string) []byte { return append(referenceNumber(uint64(len(s))), s...) }

// referenceFrame returns the frame of a section, with a checksum computed by the standard library.
func referenceFrame(id byte, data string) []byte {
	return withSum(append([]byte{id}, referenceString(data)...))
}

// withSum returns bytes with their checksum, right or not, whatever they are.
func withSum(b []byte) []byte {
	return binary.LittleEndian.AppendUint32(slices.Clone(b), crc32.ChecksumIEEE(b))
}

// texts returns strings with lengths at the bounds of the encoding of a length, and with special bytes.
func texts() []string {
	list := []string{"", "\x00", "\xff", "a", "ab", "\x00\x00\x00\x00", "\x80\x01", "\n\xff", "äöü"}
	for _, n := range []int{126, 127, 128, 129, 300, 16383, 16384, api.MaxString, api.MaxString + 1} {
		list = append(list, strings.Repeat("x", n-1)+"\xfe")
	}
	return list
}

// readCall is a call of one of the functions of a reader that read, for the checks that apply to all of them.
type readCall struct {
	name string
	zero func(r *Reader) bool // reads, and reports whether the result is zero
}

func allReads() []readCall {
	return []readCall{
		{"Byte", func(r *Reader) bool { return r.Byte() == 0 }},
		{"Uint", func(r *Reader) bool { return r.Uint(math.MaxUint64) == 0 }},
		{"Uint(0)", func(r *Reader) bool { return r.Uint(0) == 0 }},
		{"Take(1)", func(r *Reader) bool { return len(r.Take(1)) == 0 }},
		{"Take(0)", func(r *Reader) bool { return len(r.Take(0)) == 0 }},
		{"Take(-1)", func(r *Reader) bool { return len(r.Take(-1)) == 0 }},
		{"String", func(r *Reader) bool { return r.String(math.MaxInt) == "" }},
		{"String(-1)", func(r *Reader) bool { return r.String(-1) == "" }},
		{"Section(1)", func(r *Reader) bool { return len(r.Section(1)) == 0 }},
		{"Section(2)", func(r *Reader) bool { return len(r.Section(2)) == 0 }},
	}
}

func expectState(t *testing.T, r *Reader, at int, e api.Errno) {
	t.Helper()
	if r.At() != at || r.Err() != e {
		t.Errorf("the reader has the offset %d and %v, want %d and %v", r.At(), r.Err(), at, e)
	}
}

// expectRead checks the result of a read that finds no error.
func expectRead[T any](t *testing.T, r *Reader, got, want T, same func(T, T) bool, after int) {
	t.Helper()
	if !same(got, want) {
		t.Errorf("the reader returns %v, want %v", got, want)
	}
	expectState(t, r, after, api.OK)
}

func equal[T comparable](x, y T) bool { return x == y }

// expectNoted checks that a read after some bytes 7 notes an error, and that it stays noted.
func expectNoted(t *testing.T, b []byte, e api.Errno, zero func(r *Reader) bool) {
	t.Helper()
	for skip := range 3 {
		r := NewReader(append(bytes.Repeat([]byte{7}, skip), b...))
		r.Take(skip)
		if !zero(r) {
			t.Errorf("%x: the result is not zero", b)
		}
		expectState(t, r, skip, e)
		expectStuck(t, r)
	}
}

// expectStuck checks that a reader with an error reads nothing more and keeps its error.
func expectStuck(t *testing.T, r *Reader) {
	t.Helper()
	at, e := r.At(), r.Err()
	for _, c := range allReads() {
		if !c.zero(r) {
			t.Errorf("%s of a reader with %v does not return zero", c.name, e)
		}
		expectState(t, r, at, e)
	}
	for _, other := range []api.Errno{api.OK, api.ErrNil, api.ErrCRC, -1} {
		r.Fail(other)
		expectState(t, r, at, e)
	}
	if r.End() != e {
		t.Errorf("End returns %v, want %v", r.End(), e)
	}
}

// P4.1

func TestAppendBytesExamples(t *testing.T) {
	for s, want := range map[string]string{
		"":                       "\x00",
		"a":                      "\x01a",
		"ab":                     "\x02\x61\x62",
		"\x00\xff":               "\x02\x00\xff",
		strings.Repeat("x", 127): "\x7f" + strings.Repeat("x", 127),
		strings.Repeat("x", 128): "\x80\x01" + strings.Repeat("x", 128),
		strings.Repeat("x", 300): "\xac\x02" + strings.Repeat("x", 300),
	} {
		if got := AppendBytes(nil, s); string(got) != want {
			t.Errorf("the string %q is written as %x, want %x", s, got, want)
		}
	}
}

func TestAppendSectionExamples(t *testing.T) {
	for _, c := range []struct {
		id   byte
		data string
		want string
	}{
		{0, "", "\x00\x00\xff\x12\xd9\x41"},
		{1, "", "\x01\x00\xbe\x23\xc2\x58"},
		{'1', "23456789", "1\x0823456789\x71\xda\xd4\xcb"},
		{255, "ab", "\xff\x02ab\x11\x57\x9f\x23"},
	} {
		got := AppendSection(nil, Section{c.id, []byte(c.data)})
		if string(got) != c.want {
			t.Errorf("the frame of %d and %q is %x, want %x", c.id, c.data, got, c.want)
		}
		if want := referenceFrame(c.id, c.data); !bytes.Equal(got, want) {
			t.Errorf("the frame of %d and %q is %x, want %x", c.id, c.data, got, want)
		}
	}
}

func TestAppendEqualsReference(t *testing.T) {
	for _, s := range texts() {
		if got, want := AppendBytes(nil, s), referenceString(s); !bytes.Equal(got, want) {
			t.Errorf("a string of %d bytes is not written as the chapter says", len(s))
		}
		for _, id := range []byte{0, 1, 2, 127, 128, 255} {
			data := []byte(s)
			got := AppendSection(nil, Section{id, data})
			if want := referenceFrame(id, s); !bytes.Equal(got, want) {
				t.Errorf("the section %d of %d bytes is not framed as the chapter says", id, len(s))
			}
			if string(data) != s {
				t.Errorf("the data of the section %d of %d bytes is changed", id, len(s))
			}
		}
	}
}

func TestAppendSectionWithoutData(t *testing.T) {
	for _, data := range [][]byte{nil, {}} {
		if got := AppendSection(nil, Section{9, data}); !bytes.Equal(got, referenceFrame(9, "")) {
			t.Errorf("the frame of a section without data is %x", got)
		}
	}
}

func TestAppendKeepsElements(t *testing.T) {
	for _, room := range []int{0, 1, 2, 6, 100} {
		for _, prefix := range []string{"", "\x00", "\x80", "\xff\xff\xff", "abc"} {
			b := append(make([]byte, 0, len(prefix)+room), prefix...)
			if got := AppendBytes(b, "ab"); string(got) != prefix+"\x02ab" {
				t.Errorf("AppendBytes(%x, ab) returns %x", prefix, got)
			}
			if got := AppendSection(b, Section{3, []byte("ab")}); string(got) != prefix+string(referenceFrame(3, "ab")) {
				t.Errorf("AppendSection(%x, 3 ab) returns %x", prefix, got)
			}
			if string(b) != prefix {
				t.Errorf("the elements %x have become %x", prefix, b)
			}
		}
	}
}

func TestAppendSectionCopiesData(t *testing.T) {
	data := []byte("some data")
	got := AppendSection(nil, Section{3, data})
	data[0]++
	if !bytes.Equal(got, referenceFrame(3, "some data")) {
		t.Errorf("the frame has changed with its data: %x", got)
	}
	for i := range got {
		got[i] = 0
	}
	if string(data) != "tome data" {
		t.Errorf("the data has changed with its frame: %x", data)
	}
}

// The data may lie anywhere in the memory of the list to which the frame is appended.
func TestAppendSectionOfDataInSameMemory(t *testing.T) {
	for from := range 12 {
		for to := from; to <= 12; to++ {
			for n := range 13 {
				memory := append(make([]byte, 0, 40), "abcdefghijkl"...)
				data := string(memory[from:to])
				want := string(memory[:n]) + string(referenceFrame(5, data))
				if got := AppendSection(memory[:n], Section{5, memory[from:to]}); string(got) != want {
					t.Errorf("the frame of the bytes %d to %d after %d bytes is %x, want %x", from, to, n, got, want)
				}
			}
		}
	}
}

// P4.2

func TestNewReader(t *testing.T) {
	for _, b := range [][]byte{nil, {}, {0}, {1, 2, 3}, bytes.Repeat([]byte{0xff}, 1000)} {
		expectState(t, NewReader(b), 0, api.OK)
	}
}

func TestNewReaderCopies(t *testing.T) {
	frame := referenceFrame(1, "data")
	b := append([]byte("\x05\x02ab\x09"), frame...)
	before := slices.Clone(b)
	r := NewReader(b)
	for i := range b {
		b[i] = 0x80
	}
	expectRead(t, r, r.Uint(5), 5, equal, 1)
	expectRead(t, r, r.String(2), "ab", equal, 4)
	expectRead(t, r, r.Byte(), 9, equal, 5)
	expectRead(t, r, r.Section(1), []byte("data"), bytes.Equal, len(b))

	r = NewReader(before)
	expectRead(t, r, r.Take(len(before)), before, bytes.Equal, len(before))
	if want := append([]byte("\x05\x02ab\x09"), frame...); !bytes.Equal(before, want) {
		t.Errorf("the reader has changed its argument to %x", before)
	}
}

func TestReaderReadsNothingBeyondLength(t *testing.T) {
	memory := []byte{1, 2, 3, 4}
	r := NewReader(memory[:2])
	r.Take(2)
	expectState(t, r, 2, api.OK)
	if r.End() != api.OK || r.Byte() != 0 {
		t.Error("the reader reads beyond the length of its bytes")
	}
	expectState(t, r, 2, api.ErrEOF)
}

func TestFailNotesFirstError(t *testing.T) {
	for _, e := range []api.Errno{api.ErrNil, api.ErrArg, api.ErrEOF, api.ErrUnknown, 27, 1000, -1, math.MinInt, math.MaxInt} {
		r := NewReader([]byte{5, 1, 'a', 1})
		r.Fail(api.OK)
		expectRead(t, r, r.Byte(), 5, equal, 1)
		r.Fail(e)
		expectState(t, r, 1, e)
		expectStuck(t, r)
	}
}

func TestFailOfNoErrorHasNoEffect(t *testing.T) {
	r := NewReader([]byte{1, 'a'})
	r.Fail(api.OK)
	expectState(t, r, 0, api.OK)
	expectRead(t, r, r.String(1), "a", equal, 2)
	r.Fail(api.OK)
	if e := r.End(); e != api.OK {
		t.Errorf("End returns %v", e)
	}
}

func TestFailBeforeAnyRead(t *testing.T) {
	for _, b := range [][]byte{nil, {1, 'a'}, referenceFrame(1, "a")} {
		r := NewReader(b)
		r.Fail(api.ErrOrder)
		r.Fail(api.ErrName)
		expectState(t, r, 0, api.ErrOrder)
		expectStuck(t, r)
	}
}

// P4.3

func TestByteReadsEachByte(t *testing.T) {
	b := make([]byte, 256)
	for i := range b {
		b[i] = byte(i)
	}
	r := NewReader(b)
	for i := range b {
		expectRead(t, r, r.Byte(), byte(i), equal, i+1)
	}
	if r.Byte() != 0 {
		t.Error("Byte reads a byte that does not exist")
	}
	expectState(t, r, 256, api.ErrEOF)
	expectStuck(t, r)
}

func TestByteNotesEOF(t *testing.T) {
	expectNoted(t, nil, api.ErrEOF, func(r *Reader) bool { return r.Byte() == 0 })
}

func TestUintReadsNumber(t *testing.T) {
	for _, x := range []uint64{0, 1, 127, 128, 300, 16383, 16384, 1<<32 - 1, 1 << 32, 1<<63 - 1, 1 << 63, math.MaxUint64} {
		code := referenceNumber(x)
		for _, most := range []uint64{x, max(x, x+1), max(x, 2*x), math.MaxUint64} {
			r := NewReader(append(append([]byte{0x80}, code...), 0xff))
			r.Byte()
			expectRead(t, r, r.Uint(most), x, equal, 1+len(code))
			expectRead(t, r, r.Byte(), 0xff, equal, 2+len(code))
		}
		if x == 0 {
			continue
		}
		for _, most := range []uint64{0, x / 2, x - 1} {
			expectNoted(t, code, api.ErrLimit, func(r *Reader) bool { return r.Uint(most) == 0 })
		}
	}
}

// badNumbers are encodings that varint.Get rejects, with its errors.
var badNumbers = []struct {
	code string
	e    api.Errno
}{
	{"", api.ErrEOF},
	{"\x80", api.ErrEOF},
	{"\xff\xff\xff", api.ErrEOF},
	{"\x80\x80\x80\x80\x80\x80\x80\x80\x80", api.ErrEOF},
	{"\x80\x00", api.ErrMinimal},
	{"\x81\x80\x00abc", api.ErrMinimal},
	{"\x80\x80\x80\x80\x80\x80\x80\x80\x80\x00", api.ErrMinimal},
	{"\xff\xff\xff\xff\xff\xff\xff\xff\xff\x02", api.ErrOverflow},
	{"\x80\x80\x80\x80\x80\x80\x80\x80\x80\x80", api.ErrOverflow},
}

// The errors of the number precede ErrLimit.
func TestUintNotesErrorOfNumber(t *testing.T) {
	for _, c := range badNumbers {
		for _, most := range []uint64{0, 1, math.MaxUint64} {
			expectNoted(t, []byte(c.code), c.e, func(r *Reader) bool { return r.Uint(most) == 0 })
		}
	}
}

func TestTakeReadsBytes(t *testing.T) {
	b := []byte("\x00\x01\x80\xffabc")
	for at := range len(b) + 1 {
		for n := range len(b) - at + 1 {
			r := NewReader(b)
			expectRead(t, r, r.Take(at), b[:at], bytes.Equal, at)
			expectRead(t, r, r.Take(n), b[at:at+n], bytes.Equal, at+n)
		}
		for _, n := range []int{len(b) - at + 1, len(b) + 1, math.MaxInt - 1, math.MaxInt} {
			r := NewReader(b)
			r.Take(at)
			if len(r.Take(n)) != 0 {
				t.Errorf("Take(%d) at %d returns bytes", n, at)
			}
			expectState(t, r, at, api.ErrEOF)
			expectStuck(t, r)
		}
	}
}

func TestTakeOfNothing(t *testing.T) {
	r := NewReader(nil)
	for range 3 {
		expectRead(t, r, r.Take(0), nil, bytes.Equal, 0)
	}
	if e := r.End(); e != api.OK {
		t.Errorf("End returns %v", e)
	}
}

func TestTakeNotesErrArg(t *testing.T) {
	for _, n := range []int{-1, -2, -100, math.MinInt + 1, math.MinInt} {
		for _, b := range []string{"", "a", "abc"} {
			expectNoted(t, []byte(b), api.ErrArg, func(r *Reader) bool { return len(r.Take(n)) == 0 })
		}
	}
}

func TestTakeIsNewlyAllocated(t *testing.T) {
	b := []byte("abcdef")
	r, again := NewReader(b), NewReader(b)
	first := r.Take(3)
	first[0], first[2] = 0, 0
	first = append(first, 1, 2, 3)
	if got := r.Take(3); string(got) != "def" {
		t.Errorf("a result shares memory with its reader, which then reads %x", got)
	}
	if got := again.Take(6); string(got) != "abcdef" || string(b) != "abcdef" {
		t.Errorf("a result shares memory: %x, %x and %x", first, got, b)
	}
}

// P4.4

func TestStringExample(t *testing.T) {
	r := NewReader([]byte{0x01, 0x61, 0x05})
	expectRead(t, r, r.String(1), "a", equal, 2)
	if e := r.End(); e != api.ErrTrailing {
		t.Errorf("End returns %v", e)
	}
	expectRead(t, r, r.Byte(), 5, equal, 3)
}

func TestStringReadsString(t *testing.T) {
	for _, s := range texts() {
		code := referenceString(s)
		for _, most := range []int{len(s), len(s) + 1, api.MaxString + 1, math.MaxInt} {
			r := NewReader(append(append([]byte{0x80}, code...), 0xff))
			r.Byte()
			if got := r.String(most); got != s {
				t.Errorf("a string of %d bytes is read as one of %d", len(s), len(got))
			}
			expectState(t, r, 1+len(code), api.OK)
			expectRead(t, r, r.Byte(), 0xff, equal, 2+len(code))
		}
	}
}

func TestStringNotesErrLimit(t *testing.T) {
	for _, s := range texts() {
		for _, most := range []int{len(s) - 1, len(s) / 2, 0, -1, -len(s), math.MinInt} {
			if most >= len(s) {
				continue
			}
			expectNoted(t, referenceString(s), api.ErrLimit, func(r *Reader) bool { return r.String(most) == "" })
		}
	}
	for _, n := range []uint64{1 << 32, math.MaxInt64 + 1, math.MaxUint64} {
		for _, most := range []int{0, 1, math.MaxInt32, -1, math.MinInt} {
			expectNoted(t, referenceNumber(n), api.ErrLimit, func(r *Reader) bool { return r.String(most) == "" })
		}
	}
	for _, n := range []uint64{math.MaxInt64 + 1, math.MaxUint64} {
		expectNoted(t, referenceNumber(n), api.ErrLimit, func(r *Reader) bool { return r.String(math.MaxInt) == "" })
	}
}

func TestStringNotesErrorOfLength(t *testing.T) {
	for _, c := range badNumbers {
		for _, most := range []int{math.MinInt, -1, 0, 1, math.MaxInt} {
			expectNoted(t, []byte(c.code), c.e, func(r *Reader) bool { return r.String(most) == "" })
		}
	}
}

func TestStringNotesEOF(t *testing.T) {
	for _, s := range texts() {
		code := referenceString(s)
		for _, missing := range []int{1, 2, len(s)} {
			if missing > len(s) || missing == 0 {
				continue
			}
			short := code[:len(code)-missing]
			expectNoted(t, short, api.ErrEOF, func(r *Reader) bool { return r.String(len(s)) == "" })
			expectNoted(t, short, api.ErrEOF, func(r *Reader) bool { return r.String(math.MaxInt) == "" })
			expectNoted(t, short, api.ErrLimit, func(r *Reader) bool { return r.String(len(s)-1) == "" })
		}
	}
	for _, n := range []uint64{1 << 31, math.MaxInt64 - 1, math.MaxInt64} {
		code := append(referenceNumber(n), "abc"...)
		expectNoted(t, code, api.ErrEOF, func(r *Reader) bool { return r.String(math.MaxInt) == "" })
	}
}

// P4.5

func TestSectionReadsFrame(t *testing.T) {
	for _, s := range texts() {
		for _, id := range []byte{0, 1, 2, 127, 128, 255} {
			frame := referenceFrame(id, s)
			r := NewReader(append(append([]byte{0x80}, frame...), 0xff))
			r.Byte()
			if got := r.Section(id); string(got) != s {
				t.Errorf("the data of %d bytes of the section %d is read as %d bytes", len(s), id, len(got))
			}
			expectState(t, r, 1+len(frame), api.OK)
			expectRead(t, r, r.Byte(), 0xff, equal, 2+len(frame))
		}
	}
}

func expectBadSection(t *testing.T, b []byte, id byte, e api.Errno) {
	t.Helper()
	expectNoted(t, b, e, func(r *Reader) bool { return len(r.Section(id)) == 0 })
}

func TestSectionNotesErrSection(t *testing.T) {
	frame := referenceFrame(7, "data")
	for id := range 256 {
		if id != 7 {
			expectBadSection(t, frame, byte(id), api.ErrSection)
		}
	}
	expectBadSection(t, []byte{7}, 8, api.ErrSection)
	expectBadSection(t, []byte{7, 0x80, 0}, 8, api.ErrSection)
	expectBadSection(t, []byte{7, 0xff}, 8, api.ErrSection)
	expectBadSection(t, withSum([]byte{8, 1, 2})[:5], 7, api.ErrSection)
}

func TestSectionNotesErrorOfLength(t *testing.T) {
	for _, c := range badNumbers {
		expectBadSection(t, append([]byte{7}, c.code...), 7, c.e)
		if c.e != api.ErrEOF {
			expectBadSection(t, withSum(append([]byte{7}, c.code...)), 7, c.e)
		}
	}
	expectBadSection(t, withSum([]byte{7, 0x84, 0x00, 'd', 'a', 't', 'a'}), 7, api.ErrMinimal)
}

func TestSectionNotesEOF(t *testing.T) {
	expectBadSection(t, nil, 0, api.ErrEOF)
	for _, s := range []string{"", "a", "data", strings.Repeat("x", 127), strings.Repeat("x", 128)} {
		frame := referenceFrame(7, s)
		for n := range frame {
			expectBadSection(t, frame[:n], 7, api.ErrEOF)
		}
	}
}

// The lengths are those at which a word overflows if the checksum's bytes or the offset are added.
func TestSectionOfHugeLengthNotesEOF(t *testing.T) {
	for _, n := range []uint64{1 << 31, math.MaxInt64 - 8, math.MaxInt64, math.MaxInt64 + 1, math.MaxUint64 - 20,
		math.MaxUint64 - 12, math.MaxUint64 - 4, math.MaxUint64 - 3, math.MaxUint64 - 2, math.MaxUint64} {
		expectBadSection(t, withSum(append([]byte{7}, referenceNumber(n)...)), 7, api.ErrEOF)
		expectBadSection(t, withSum(append(append([]byte{7}, referenceNumber(n)...), "data"...)), 7, api.ErrEOF)
	}
}

func TestSectionNotesErrCRC(t *testing.T) {
	for _, s := range []string{"", "a", "data"} {
		frame := referenceFrame(7, s)
		for i := range frame {
			if i == 1 {
				continue // the length
			}
			for difference := 1; difference < 256; difference++ {
				frame[i] ^= byte(difference)
				if i > 0 {
					expectBadSection(t, frame, 7, api.ErrCRC)
				} else {
					expectBadSection(t, frame, frame[0], api.ErrCRC)
				}
				frame[i] ^= byte(difference)
			}
		}
	}
}

func TestSectionRejectsOtherChecksums(t *testing.T) {
	body := []byte{7, 4, 'd', 'a', 't', 'a'}
	sum := crc32.ChecksumIEEE(body)
	r := NewReader(binary.LittleEndian.AppendUint32(slices.Clone(body), sum))
	expectRead(t, r, r.Section(7), []byte("data"), bytes.Equal, 10)
	expectBadSection(t, binary.BigEndian.AppendUint32(slices.Clone(body), sum), 7, api.ErrCRC)
	expectBadSection(t, binary.LittleEndian.AppendUint32(slices.Clone(body), ^sum), 7, api.ErrCRC)
	expectBadSection(t, binary.LittleEndian.AppendUint32(slices.Clone(body), crc32.ChecksumIEEE(body[1:])), 7, api.ErrCRC)
	expectBadSection(t, binary.LittleEndian.AppendUint32(slices.Clone(body), crc32.ChecksumIEEE(body[2:])), 7, api.ErrCRC)
}

// The checksum is that of the frame alone: neither the bytes before it nor those after it belong to it.
func TestSectionChecksumIsThatOfFrame(t *testing.T) {
	b := append([]byte("before"), 7, 4, 'd', 'a', 't', 'a')
	b = withSum(b)
	r := NewReader(b)
	r.Take(6)
	if len(r.Section(7)) != 0 {
		t.Error("a section is accepted with the checksum of more than its frame")
	}
	expectState(t, r, 6, api.ErrCRC)
}

func TestSectionIsNewlyAllocated(t *testing.T) {
	b := append(referenceFrame(1, "first"), referenceFrame(2, "second")...)
	r, again := NewReader(b), NewReader(b)
	first := r.Section(1)
	for i := range first {
		first[i] = 0
	}
	first = append(first, make([]byte, 6)...) // as far as the second frame, if the memory is shared
	if got := r.Section(2); string(got) != "second" {
		t.Errorf("a result shares memory with its reader, which then reads %x", got)
	}
	if got := again.Section(1); string(got) != "first" || !bytes.Equal(b[:11], referenceFrame(1, "first")) {
		t.Errorf("a result shares memory: %x, %x and %x", first, got, b)
	}
}

// P4.6

func TestEnd(t *testing.T) {
	for n := range 4 {
		r := NewReader(make([]byte, n))
		for i := range n {
			for range 2 {
				if e := r.End(); e != api.ErrTrailing {
					t.Errorf("End with %d bytes left returns %v", n-i, e)
				}
			}
			expectState(t, r, i, api.OK)
			expectRead(t, r, r.Byte(), 0, equal, i+1)
		}
		for range 2 {
			if e := r.End(); e != api.OK {
				t.Errorf("End after all %d bytes returns %v", n, e)
			}
		}
		expectState(t, r, n, api.OK)
	}
}

// An error precedes ErrTrailing, and is returned at the end of the bytes too.
func TestEndReturnsError(t *testing.T) {
	r := NewReader([]byte{1, 2})
	r.Uint(0)
	if e := r.End(); e != api.ErrLimit {
		t.Errorf("End returns %v", e)
	}
	r = NewReader([]byte{1})
	r.Byte()
	r.Fail(api.ErrOrder)
	if e := r.End(); e != api.ErrOrder {
		t.Errorf("End returns %v", e)
	}
}

func TestFailAfterEndNotesError(t *testing.T) {
	r := NewReader([]byte{1})
	r.End()
	r.Fail(api.ErrOrder)
	expectState(t, r, 0, api.ErrOrder)
}

// P4.7

// element is a piece of a list of bytes: how it is appended, and whether it is read back.
type element struct {
	append func(b []byte) []byte
	read   func(r *Reader) bool
}

func randomText(source *rand.Rand) string {
	b := make([]byte, source.Intn(200))
	source.Read(b)
	return string(b)
}

func randomElement(source *rand.Rand) element {
	s, id := randomText(source), byte(source.Intn(256))
	switch source.Intn(4) {
	case 0:
		return element{
			func(b []byte) []byte { return append(b, id) },
			func(r *Reader) bool { return r.Byte() == id },
		}
	case 1:
		x := source.Uint64() >> source.Intn(64)
		return element{
			func(b []byte) []byte { return binary.AppendUvarint(b, x) },
			func(r *Reader) bool { return r.Uint(x) == x },
		}
	case 2:
		return element{
			func(b []byte) []byte { return AppendBytes(b, s) },
			func(r *Reader) bool { return r.String(len(s)) == s },
		}
	default:
		return element{
			func(b []byte) []byte { return AppendSection(b, Section{id, []byte(s)}) },
			func(r *Reader) bool { return string(r.Section(id)) == s },
		}
	}
}

func TestReaderInvertsAppend(t *testing.T) {
	source := rand.New(rand.NewSource(1))
	for range 300 {
		var list []element
		var b []byte
		var ends []int
		for range source.Intn(10) {
			one := randomElement(source)
			list, b = append(list, one), one.append(b)
			ends = append(ends, len(b))
		}
		r := NewReader(b)
		for i, one := range list {
			if !one.read(r) {
				t.Errorf("the element %d of %x is not read back", i, b)
			}
			expectState(t, r, ends[i], api.OK)
		}
		if e := r.End(); e != api.OK {
			t.Errorf("End returns %v", e)
		}
		expectPrefixEnds(t, b, list, ends)
	}
}

// expectPrefixEnds checks that the element that a prefix cuts off notes ErrEOF.
func expectPrefixEnds(t *testing.T, b []byte, list []element, ends []int) {
	t.Helper()
	for n := range b {
		r := NewReader(b[:n])
		for _, one := range list {
			one.read(r)
		}
		whole, _ := slices.BinarySearch(ends, n+1)
		at := 0
		if whole > 0 {
			at = ends[whole-1]
		}
		expectState(t, r, at, api.ErrEOF)
	}
}

// invert inverts the bits of b at which a word has ones, from the bit number at on.
func invert(b []byte, at int, word uint64) {
	for ; word != 0; at, word = at+1, word>>1 {
		b[at/8] ^= byte(word&1) << (at % 8)
	}
}

// expectInvertedRejected checks that a frame with inverted bits is not the same section with data of the same length.
func expectInvertedRejected(t *testing.T, frame []byte, length, at int, word uint64) {
	t.Helper()
	id := frame[0]
	invert(frame, at, word)
	r := NewReader(frame)
	data := r.Section(id)
	if r.Err() == api.OK && len(data) == length {
		t.Errorf("the frame %x, in which the bits %08x from %d on are inverted, is accepted", frame, word, at)
	}
	invert(frame, at, word)
}

func TestSectionRejectsInvertedBits(t *testing.T) {
	source := rand.New(rand.NewSource(2))
	for _, s := range []string{"", "\x00", "a", "data", "some more data"} {
		frame := AppendSection(nil, Section{7, []byte(s)})
		for at := range 8 * len(frame) {
			width := min(32, 8*len(frame)-at)
			words := []uint64{1, 1<<width - 1, 1<<(width-1) | 1, 0xedb88320&(1<<width-1) | 1, 0x04c11db7 & (1<<width - 1)}
			for range 100 {
				words = append(words, source.Uint64()&(1<<source.Intn(width+1)-1)|1)
			}
			for _, word := range words {
				expectInvertedRejected(t, frame, len(s), at, word)
			}
		}
		r := NewReader(frame)
		expectRead(t, r, r.Section(7), []byte(s), bytes.Equal, len(frame))
	}
}

func TestSectionRejectsAllShortBursts(t *testing.T) {
	frame := AppendSection(nil, Section{7, []byte("data")})
	for at := range 8 * len(frame) {
		for word := uint64(1); word < 1<<min(12, 8*len(frame)-at); word += 2 {
			expectInvertedRejected(t, frame, 4, at, word)
		}
	}
}

// nil readers

func TestNilReader(t *testing.T) {
	var r *Reader
	expectState(t, r, 0, api.ErrNil)
	expectStuck(t, r)
	for _, e := range []api.Errno{api.OK, api.ErrEOF, -1} {
		r.Fail(e)
		expectState(t, r, 0, api.ErrNil)
	}
	if e := r.End(); e != api.ErrNil {
		t.Errorf("End of a nil Reader returns %v", e)
	}
}

// P1, P2

func TestReadersAreIndependent(t *testing.T) {
	b := []byte{1, 'a', 2, 'b', 'c'}
	first, second := NewReader(b), NewReader(b)
	expectRead(t, first, first.String(1), "a", equal, 2)
	first.Fail(api.ErrOrder)
	expectState(t, second, 0, api.OK)
	expectRead(t, second, second.String(1), "a", equal, 2)
	expectRead(t, second, second.String(2), "bc", equal, 5)
	expectState(t, first, 2, api.ErrOrder)
}

// Whatever the bytes are, the reads end, the offset stays within them, and it moves only without an error.
func TestReadersOfArbitraryBytes(t *testing.T) {
	source := rand.New(rand.NewSource(3))
	choices := []byte{0, 1, 2, 3, 0x7f, 0x80, 0x81, 0xff}
	for range 20000 {
		b := make([]byte, source.Intn(14))
		for i := range b {
			b[i] = choices[source.Intn(len(choices))]
		}
		r := NewReader(b)
		for range 5 {
			at, e := r.At(), r.Err()
			reads := allReads()
			one := reads[source.Intn(len(reads))]
			zero := one.zero(r)
			if r.At() < at || r.At() > len(b) || e != api.OK && r.Err() != e {
				t.Errorf("%s of %x at %d with %v leaves %d and %v", one.name, b, at, e, r.At(), r.Err())
			}
			if r.Err() != api.OK && (r.At() != at || !zero) {
				t.Errorf("%s of %x at %d notes %v, but has an effect", one.name, b, at, r.Err())
			}
		}
	}
}

func TestConcurrentReaders(t *testing.T) {
	b := AppendSection(AppendBytes(nil, "name"), Section{7, []byte("data")})
	var group sync.WaitGroup
	for range 8 {
		group.Go(func() {
			r := NewReader(b)
			if r.String(4) != "name" || string(r.Section(7)) != "data" || r.End() != api.OK {
				t.Error("concurrent readers have wrong results")
			}
		})
	}
	group.Wait()
}
