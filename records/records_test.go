package records

import (
	"bytes"
	"encoding/binary"
	"fmt"
	"math"
	"math/rand"
	"slices"
	"strings"
	"sync"
	"testing"

	"tsblock/api"
	"tsblock/varint"
)

const (
	most = math.MaxInt32     // the greatest length of a chunk
	more = math.MaxInt32 + 1 // one that is too great
)

// record returns a record with the lengths of its chunks, and with the names and values of its labels in turn.
func record(chunks []int, strings ...string) Record {
	x := Record{Chunks: chunks}
	for i := 0; i < len(strings); i += 2 {
		x.Labels = append(x.Labels, api.Label{Name: strings[i], Value: strings[i+1]})
	}
	return x
}

// lengths returns a list, for short.
func lengths(l ...int) []int { return l }

// numbers returns the encodings of numbers, one after the other.
func numbers(l ...uint64) []byte {
	var b []byte
	for _, x := range l {
		b = binary.AppendUvarint(b, x)
	}
	return b
}

// ascending returns a table of n strings.
func ascending(n int) []string {
	var t []string
	for i := range n {
		t = append(t, string(binary.BigEndian.AppendUint32(nil, uint32(i))))
	}
	return t
}

// encodings are records that are complete for a table, with their encodings, written out by hand.
var encodings = []struct {
	t []string
	l []Record
	b string
}{
	{nil, nil, "\x00"},
	{[]string{"a", "x"}, nil, "\x00"},
	{nil, []Record{record(lengths(1))}, "\x01\x00\x01\x01"},
	{[]string{"a"}, []Record{record(lengths(1))}, "\x01\x00\x01\x01"},
	{nil, []Record{record(lengths(1, 2, 3))}, "\x01\x00\x03\x01\x02\x03"},
	{nil, []Record{record(lengths(3, 1, 3)), record(lengths(5))}, "\x02\x00\x03\x03\x01\x03\x00\x01\x05"},
	{[]string{"a", "x"}, []Record{record(lengths(20), "a", "x")}, "\x01\x01\x00\x01\x01\x14"},
	{[]string{"a", "x"}, []Record{record(lengths(20), "x", "a")}, "\x01\x01\x01\x00\x01\x14"},
	{[]string{"a"}, []Record{record(lengths(20), "a", "a")}, "\x01\x01\x00\x00\x01\x14"},
	{[]string{"", "a"}, []Record{record(lengths(7), "a", "")}, "\x01\x01\x01\x00\x01\x07"},
	{[]string{"", "a"}, []Record{record(lengths(7), "", "")}, "\x01\x01\x00\x00\x01\x07"},
	// The labels need not be a label set.
	{[]string{"a", "b", "c"}, []Record{record(lengths(7), "b", "c", "a", "c", "b", "c")}, "\x01\x03\x01\x02\x00\x02\x01\x02\x01\x07"},
	{[]string{"a", "b", "x", "y"}, []Record{record(lengths(1, 2), "a", "x", "b", "y")}, "\x01\x02\x00\x02\x01\x03\x02\x01\x02"},
	{[]string{"a", "b", "x", "y"}, []Record{record(lengths(9), "a", "y"), record(lengths(8, 7)), record(lengths(6), "b", "x", "a", "a")}, "\x03\x01\x00\x03\x01\x09\x00\x02\x08\x07\x02\x01\x02\x00\x00\x01\x06"},
	{[]string{"a", "x"}, []Record{record(lengths(1), "a", "x"), record(lengths(1), "a", "x")}, "\x02\x01\x00\x01\x01\x01\x01\x00\x01\x01\x01"},
	// Numbers at the bounds of the lengths of their encodings.
	{nil, []Record{record(lengths(127, 128, 300, 16383, 16384, 2097151, 2097152, 268435455, 268435456))}, "\x01\x00\x09\x7f\x80\x01\xac\x02\xff\x7f\x80\x80\x01\xff\xff\x7f\x80\x80\x80\x01\xff\xff\xff\x7f\x80\x80\x80\x80\x01"},
	{nil, []Record{record(lengths(most))}, "\x01\x00\x01\xff\xff\xff\xff\x07"},
	{nil, []Record{record(lengths(most, 1, most))}, "\x01\x00\x03\xff\xff\xff\xff\x07\x01\xff\xff\xff\xff\x07"},
	{nil, []Record{record(lengths(most - 1))}, "\x01\x00\x01\xfe\xff\xff\xff\x07"},
}

// referenceSymbol returns the position of a string in a table, and whether it is there.
func referenceSymbol(t []string, s string) (uint64, bool) {
	for i, other := range t {
		if other == s {
			return uint64(i), true
		}
	}
	return 0, false
}

// encodingOf returns records as they are encoded, also where a length is not permitted or there are no chunks.
func encodingOf(t []string, l ...Record) []byte {
	b := numbers(uint64(len(l)))
	for _, x := range l {
		b = append(b, numbers(uint64(len(x.Labels)))...)
		for _, label := range x.Labels {
			name, _ := referenceSymbol(t, label.Name)
			value, _ := referenceSymbol(t, label.Value)
			b = append(b, numbers(name, value)...)
		}
		b = append(b, numbers(uint64(len(x.Chunks)))...)
		for _, length := range x.Chunks {
			b = append(b, numbers(uint64(length))...)
		}
	}
	return b
}

// referenceEncode looks for errors first, and for those of each record one after the other.
func referenceEncode(t []string, l []Record) ([]byte, api.Errno) {
	for _, x := range l {
		for _, label := range x.Labels {
			_, hasName := referenceSymbol(t, label.Name)
			_, hasValue := referenceSymbol(t, label.Value)
			if !hasName || !hasValue {
				return nil, api.ErrSymbol
			}
		}
		if len(x.Chunks) == 0 || slices.Min(x.Chunks) <= 0 || slices.Max(x.Chunks) > 2147483647 {
			return nil, api.ErrChunks
		}
	}
	return encodingOf(t, l...), api.OK
}

// referenceReader reads numbers from the rest of some bytes, and keeps the first error.
type referenceReader struct {
	rest []byte
	err  api.Errno
}

// number reads a number that is not too great, or keeps an error.
func (r *referenceReader) number(isWrong func(x uint64) bool, ifWrong api.Errno) int {
	if r.err != api.OK {
		return 0
	}
	x, n, e := varint.Get(r.rest, 0)
	if e != api.OK {
		r.err = e
		return 0
	}
	r.rest = r.rest[n:]
	if isWrong(x) {
		r.err = ifWrong
		return 0
	}
	return int(x)
}

func (r *referenceReader) count() int {
	return r.number(func(x uint64) bool { return x > uint64(len(r.rest)) }, api.ErrEOF)
}

func referenceDecode(t []string, b []byte) ([]Record, api.Errno) {
	r := &referenceReader{rest: b}
	var l []Record
	for n := r.count(); n > 0 && r.err == api.OK; n-- {
		var x Record
		for k := 2 * r.count(); k > 0 && r.err == api.OK; k-- {
			i := r.number(func(x uint64) bool { return x >= uint64(len(t)) }, api.ErrSymbol)
			if r.err != api.OK {
				break
			}
			if k%2 == 0 {
				x.Labels = append(x.Labels, api.Label{Name: t[i]})
			} else {
				x.Labels[len(x.Labels)-1].Value = t[i]
			}
		}
		k := r.count()
		if k == 0 && r.err == api.OK {
			r.err = api.ErrChunks
		}
		for ; k > 0 && r.err == api.OK; k-- {
			x.Chunks = append(x.Chunks, r.number(func(x uint64) bool { return x == 0 || x >= 1<<31 }, api.ErrChunks))
		}
		l = append(l, x)
	}
	if r.err == api.OK && len(r.rest) > 0 {
		r.err = api.ErrTrailing
	}
	if r.err != api.OK {
		return nil, r.err
	}
	return l, api.OK
}

// cloneOf returns a copy that shares no slice.
func cloneOf(l []Record) []Record {
	c := slices.Clone(l)
	for i, x := range c {
		c[i] = Record{slices.Clone(x.Labels), slices.Clone(x.Chunks)}
	}
	return c
}

func isEqual(a, b []Record) bool {
	return slices.EqualFunc(a, b, func(x, y Record) bool {
		return slices.Equal(x.Labels, y.Labels) && slices.Equal(x.Chunks, y.Chunks)
	})
}

// randomRecord returns a record that is complete for a table, which must not be empty.
func randomRecord(source *rand.Rand, t []string) Record {
	var x Record
	for range source.Intn(4) {
		x.Labels = append(x.Labels, api.Label{Name: t[source.Intn(len(t))], Value: t[source.Intn(len(t))]})
	}
	for range 1 + source.Intn(4) {
		x.Chunks = append(x.Chunks, 1+source.Intn(1<<(1+source.Intn(31))-1))
	}
	return x
}

func randomRecords(source *rand.Rand, t []string, n int) []Record {
	var l []Record
	for range n {
		l = append(l, randomRecord(source, t))
	}
	return l
}

// list is a list of records with a table for which they are complete.
type list struct {
	t []string
	l []Record
}

// manyLists returns those written out by hand, some with numbers at the bounds of their encodings, and random ones.
func manyLists() []list {
	var all []list
	for _, c := range encodings {
		all = append(all, list{c.t, c.l})
	}
	table := ascending(16386)
	for _, n := range []int{1, 2, 126, 127, 128, 129, 300} {
		var wide Record
		for i := range n {
			wide.Labels = append(wide.Labels, api.Label{Name: table[i], Value: table[n-1-i]})
			wide.Chunks = append(wide.Chunks, i+1)
		}
		all = append(all, list{table[:n], []Record{wide}}, list{nil, slices.Repeat([]Record{record(lengths(5))}, n)})
	}
	for _, i := range []int{126, 127, 128, 16383, 16384, 16385} {
		all = append(all, list{table[:i+1], []Record{record(lengths(i), table[i], table[0]), record(lengths(1, i), table[0], table[i])}})
	}
	source := rand.New(rand.NewSource(13))
	for i := range 300 {
		t := table[:1+source.Intn(300)]
		all = append(all, list{t, randomRecords(source, t, i%20)})
	}
	return all
}

// shown returns a value for a message.
func shown(x any) string {
	text := fmt.Sprintf("%q", x)
	if b, ok := x.([]byte); ok {
		text = fmt.Sprintf("%x", b)
	} else if l, ok := x.([]Record); ok {
		text = fmt.Sprintf("%+v", l)
	}
	if len(text) > 300 {
		return text[:300] + " ..."
	}
	return text
}

// expectEncode checks all that Encode does.
func expectEncode(t *testing.T, table []string, l []Record, want []byte, wantError api.Errno) {
	t.Helper()
	keptTable, kept := slices.Clone(table), cloneOf(l)
	b, e := Encode(table, l)
	if e != wantError || !bytes.Equal(b, want) {
		t.Errorf("Encode of %s with %s returns %s and %v, want %s and %v", shown(l), shown(table), shown(b), e, shown(want), wantError)
	}
	if !slices.Equal(table, keptTable) || !isEqual(l, kept) {
		t.Errorf("Encode has changed %s or %s to %s or %s", shown(keptTable), shown(kept), shown(table), shown(l))
	}
}

// expectRefused checks that Encode returns an error alone.
func expectRefused(t *testing.T, table []string, want api.Errno, l ...Record) {
	t.Helper()
	expectEncode(t, table, l, nil, want)
}

// expectDecode checks all that Decode does.
func expectDecode(t *testing.T, table []string, b []byte, want []Record, wantError api.Errno) {
	t.Helper()
	keptTable, kept := slices.Clone(table), bytes.Clone(b)
	l, e := Decode(table, b)
	if e != wantError || !isEqual(l, want) {
		t.Errorf("Decode of %s with %s returns %s and %v, want %s and %v", shown(b), shown(table), shown(l), e, shown(want), wantError)
	}
	if !slices.Equal(table, keptTable) || !bytes.Equal(b, kept) {
		t.Errorf("Decode has changed %s or %s to %s or %s", shown(keptTable), shown(kept), shown(table), shown(b))
	}
}

// expectError checks that Decode returns an error alone.
func expectError(t *testing.T, table []string, want api.Errno, b ...byte) {
	t.Helper()
	expectDecode(t, table, b, nil, want)
}

// expectUnused checks all that Unused does.
func expectUnused(t *testing.T, table []string, l []Record, want int) {
	t.Helper()
	keptTable, kept := slices.Clone(table), cloneOf(l)
	if got := Unused(table, l); got != want {
		t.Errorf("Unused of %s and %s returns %d, want %d", shown(table), shown(l), got, want)
	}
	if !slices.Equal(table, keptTable) || !isEqual(l, kept) {
		t.Errorf("Unused has changed %s or %s to %s or %s", shown(keptTable), shown(kept), shown(table), shown(l))
	}
}

// expectTotal checks all that Total does.
func expectTotal(t *testing.T, l []Record, want int) {
	t.Helper()
	kept := cloneOf(l)
	if got := Total(l); got != want {
		t.Errorf("Total of %s returns %d, want %d", shown(l), got, want)
	}
	if !isEqual(l, kept) {
		t.Errorf("Total has changed %s to %s", shown(kept), shown(l))
	}
}

// P13.1

func TestEncode(t *testing.T) {
	for _, c := range encodings {
		expectEncode(t, c.t, c.l, []byte(c.b), api.OK)
	}
}

func TestEncodeOfExample(t *testing.T) {
	l := []Record{{Labels: []api.Label{{Name: "a", Value: "x"}}, Chunks: []int{20}}}
	expectEncode(t, []string{"a", "x"}, l, []byte{1, 1, 0, 1, 1, 20}, api.OK)
}

func TestEncodeOfNoRecords(t *testing.T) {
	for _, table := range [][]string{nil, {}, {""}, {"a", "x"}} {
		expectEncode(t, table, nil, []byte{0}, api.OK)
		expectEncode(t, table, []Record{}, []byte{0}, api.OK)
	}
}

// The numbers at which the encoding of a number has one more byte, in each place.
func TestEncodeOfNumbers(t *testing.T) {
	table := ascending(20000)
	for n, head := range map[int]string{1: "\x01", 127: "\x7f", 128: "\x80\x01", 300: "\xac\x02", 16383: "\xff\x7f", 16384: "\x80\x80\x01"} {
		one := record(lengths(5), table[2], table[3])
		expectEncode(t, table, slices.Repeat([]Record{one}, n), []byte(head+strings.Repeat("\x01\x02\x03\x01\x05", n)), api.OK)
		wide := Record{slices.Repeat(one.Labels, n), lengths(5)}
		expectEncode(t, table, []Record{wide}, []byte("\x01"+head+strings.Repeat("\x02\x03", n)+"\x01\x05"), api.OK)
		long := Record{one.Labels, slices.Repeat(lengths(5), n)}
		expectEncode(t, table, []Record{long}, []byte("\x01\x01\x02\x03"+head+strings.Repeat("\x05", n)), api.OK)
		expectEncode(t, table, []Record{record(lengths(5), table[n], table[3])}, []byte("\x01\x01"+head+"\x03\x01\x05"), api.OK)
		expectEncode(t, table, []Record{record(lengths(5), table[2], table[n])}, []byte("\x01\x01\x02"+head+"\x01\x05"), api.OK)
		expectEncode(t, table, []Record{record(lengths(n))}, []byte("\x01\x00\x01"+head), api.OK)
	}
}

func TestEncodeEqualsReference(t *testing.T) {
	for _, c := range manyLists() {
		expectEncode(t, c.t, c.l, encodingOf(c.t, c.l...), api.OK)
	}
}

func TestEncodeOfMissingStrings(t *testing.T) {
	table := []string{"a", "c", "x", "z"}
	for _, s := range []string{"", "0", "A", "aa", "b", "a\x00", "d", "y", "zz", "\xff", strings.Repeat("a", api.MaxString+1)} {
		for _, l := range [][]string{
			{s, "x"}, {"a", s}, {s, s},
			{"a", "x", s, "x"}, {"a", "x", "c", s}, {"a", "x", s, s}, {s, "x", "c", "z"}, {"a", s, "c", "z"}, {s, s, s, s},
			{"a", "x", "c", "z", s, "a"}, {"a", "x", "c", "z", "z", s},
		} {
			x, right := record(lengths(5), l...), record(lengths(6), "a", "x")
			expectRefused(t, table, api.ErrSymbol, x)
			expectRefused(t, table, api.ErrSymbol, x, right)
			expectRefused(t, table, api.ErrSymbol, right, x)
			expectRefused(t, table, api.ErrSymbol, right, x, right)
		}
	}
}

func TestEncodeWithEmptyTable(t *testing.T) {
	for _, table := range [][]string{nil, {}, []string{"a", "x"}[:0]} {
		expectEncode(t, table, []Record{record(lengths(5))}, []byte{1, 0, 1, 5}, api.OK)
		for _, l := range [][]string{{"a", "x"}, {"a", ""}, {"", "x"}, {"", ""}} {
			expectRefused(t, table, api.ErrSymbol, record(lengths(5), l...))
			expectRefused(t, table, api.ErrSymbol, record(lengths(5)), record(lengths(5), l...))
		}
	}
}

// Lengths that are not permitted, in the first, a middle and the last place of a record in the first, a middle and the last place.
func TestEncodeOfWrongLengths(t *testing.T) {
	table := []string{"a", "x"}
	wrong := [][]int{nil, {}}
	for _, length := range []int{0, -1, -2, -300, math.MinInt32, math.MinInt64, more, more + 1, 1 << 32, 1<<32 + 1, 1<<32 + 5, 1 << 62, math.MaxInt64} {
		wrong = append(wrong, lengths(length), lengths(length, 5), lengths(5, length), lengths(5, length, 5), lengths(length, length))
	}
	right := record(lengths(5, 1, most), "a", "x")
	for _, l := range wrong {
		for _, x := range []Record{record(l), record(l, "a", "x"), record(l, "a", "x", "x", "a")} {
			expectRefused(t, table, api.ErrChunks, x)
			expectRefused(t, table, api.ErrChunks, x, right, right)
			expectRefused(t, table, api.ErrChunks, right, x, right)
			expectRefused(t, table, api.ErrChunks, right, right, x)
		}
	}
}

func TestEncodeOfPermittedLengths(t *testing.T) {
	for _, length := range []int{1, 2, 127, 128, 1 << 20, most - 1, most} {
		want := binary.AppendUvarint(nil, uint64(length))
		expectEncode(t, nil, []Record{record(lengths(length))}, slices.Concat([]byte{1, 0, 1}, want), api.OK)
		expectEncode(t, nil, []Record{record(lengths(1, length))}, slices.Concat([]byte{1, 0, 2, 1}, want), api.OK)
		expectEncode(t, nil, []Record{record(lengths(length, length))}, slices.Concat([]byte{1, 0, 2}, want, want), api.OK)
	}
}

// In a record, a missing string precedes wrong lengths; the errors of a record precede those of later ones.
func TestFirstErrorOfEncode(t *testing.T) {
	table := []string{"a", "x"}
	right := record(lengths(5), "a", "x")
	for _, l := range [][]int{nil, {0}, {-1}, {more}, {5, 0}} {
		chunks := record(l, "a", "x")
		for _, s := range [][]string{{"b", "x"}, {"a", "b"}, {"b", "b"}, {"a", "x", "b", "x"}, {"a", "x", "a", "b"}} {
			symbol, both := record(lengths(5), s...), record(l, s...)
			expectRefused(t, table, api.ErrSymbol, both)
			expectRefused(t, table, api.ErrSymbol, right, both)
			expectRefused(t, table, api.ErrSymbol, both, chunks)
			expectRefused(t, table, api.ErrSymbol, symbol, chunks)
			expectRefused(t, table, api.ErrSymbol, right, symbol, right, chunks)
			expectRefused(t, table, api.ErrChunks, chunks, symbol)
			expectRefused(t, table, api.ErrChunks, chunks, both)
			expectRefused(t, table, api.ErrChunks, right, chunks, right, symbol)
		}
	}
}

// All lists of at most three records out of some with and without errors.
func TestEncodeOfAllShortLists(t *testing.T) {
	table := []string{"a", "x"}
	some := []Record{
		record(nil), record(lengths(0)), record(lengths(1)), record(lengths(most, 2)), record(lengths(1, more)), record(lengths(-1, 1)),
		record(lengths(1), "a", "x"), record(lengths(1), "x", "a"), record(lengths(1), "a", "a", "a", "x"), record(nil, "a", "x"),
		record(lengths(1), "b", "x"), record(lengths(1), "a", ""), record(lengths(1), "a", "x", "x", "y"), record(nil, "a", "b"), record(lengths(more), "z", "x"),
	}
	count := map[api.Errno]int{}
	var extend func(l []Record)
	extend = func(l []Record) {
		b, e := referenceEncode(table, l)
		expectEncode(t, table, l, b, e)
		count[e]++
		if len(l) < 3 {
			for _, x := range some {
				extend(append(l[:len(l):len(l)], x))
			}
		}
	}
	extend(nil)
	for _, e := range []api.Errno{api.OK, api.ErrSymbol, api.ErrChunks} {
		if count[e] < 100 {
			t.Errorf("only %d results are %v", count[e], e)
		}
	}
}

// Elements behind the end of a slice do not belong to it.
func TestEncodeStaysWithinTheSlices(t *testing.T) {
	table := []string{"a", "x", "y"}
	l := []Record{record(lengths(5, 0), "a", "x", "b", "x"), record(nil)}
	expectRefused(t, table, api.ErrSymbol, l...)
	l[0].Labels = l[0].Labels[:1]
	expectRefused(t, table, api.ErrChunks, l...)
	l[0].Chunks = l[0].Chunks[:1]
	expectRefused(t, table, api.ErrChunks, l...)
	expectEncode(t, table, l[:1], []byte{1, 1, 0, 1, 1, 5}, api.OK)
	expectEncode(t, table[:2], l[:1], []byte{1, 1, 0, 1, 1, 5}, api.OK)
	expectRefused(t, table[:1], api.ErrSymbol, l[:1]...)
	expectEncode(t, table[:1], l[:0], []byte{0}, api.OK)
}

func TestEncodeSharesNoMemory(t *testing.T) {
	for _, c := range encodings {
		l := cloneOf(c.l)
		one, _ := Encode(c.t, l)
		two, _ := Encode(c.t, l)
		clear(append(one, "xyz"...))
		clear(one)
		for _, x := range l {
			clear(x.Labels)
			clear(x.Chunks)
		}
		if string(two) != c.b {
			t.Errorf("the encoding of %s has become %x", shown(c.l), two)
		}
	}
}

// P13.2

func TestDecode(t *testing.T) {
	for _, c := range encodings {
		expectDecode(t, c.t, []byte(c.b), c.l, api.OK)
	}
}

func TestDecodeOfExample(t *testing.T) {
	l := []Record{{Labels: []api.Label{{Name: "a", Value: "x"}}, Chunks: []int{20}}}
	expectDecode(t, []string{"a", "x"}, []byte{1, 1, 0, 1, 1, 20}, l, api.OK)
}

func TestDecodeOfNothing(t *testing.T) {
	for _, table := range [][]string{nil, {}, {""}, {"a", "x"}} {
		expectError(t, table, api.ErrEOF)
		expectDecode(t, table, []byte{}, nil, api.ErrEOF)
		expectDecode(t, table, []byte{0}[:0], nil, api.ErrEOF)
		expectDecode(t, table, []byte{0}, nil, api.OK)
	}
}

// The bytes end at every place.
func TestDecodeOfCutRecords(t *testing.T) {
	for _, c := range manyLists() {
		b := encodingOf(c.t, c.l...)
		step := 1 + len(b)/500
		for n := 0; n < len(b); n += step {
			expectError(t, c.t, api.ErrEOF, b[:n]...)
		}
		expectError(t, c.t, api.ErrEOF, b[:len(b)-1]...)
	}
}

// wrongNumbers are strings of bytes of which no beginning is a number.
var wrongNumbers = []struct {
	b string
	e api.Errno
}{
	{"\x80\x00", api.ErrMinimal},
	{"\x81\x00", api.ErrMinimal},
	{"\xff\x80\x00", api.ErrMinimal},
	{strings.Repeat("\x80", 9) + "\x00", api.ErrMinimal},
	{strings.Repeat("\x80", 9) + "\x02", api.ErrOverflow},
	{strings.Repeat("\xff", 9) + "\x7f", api.ErrOverflow},
	{strings.Repeat("\xff", 10), api.ErrOverflow},
	{strings.Repeat("\x80", 9) + "\x80\x00", api.ErrOverflow},
}

// cutNumbers are beginnings of numbers.
var cutNumbers = []string{"", "\x80", "\xff", "\x80\x80", "\xff\xff\xff\xff\xff", strings.Repeat("\x80", 9), strings.Repeat("\xff", 9)}

// places are the bytes before each number of the encoding of two records: one with a label and a chunk, and one with two of both.
var places = []string{
	"",
	"\x02",
	"\x02\x01",
	"\x02\x01\x00",
	"\x02\x01\x00\x01",
	"\x02\x01\x00\x01\x01",
	"\x02\x01\x00\x01\x01\x05",
	"\x02\x01\x00\x01\x01\x05\x02",
	"\x02\x01\x00\x01\x01\x05\x02\x00",
	"\x02\x01\x00\x01\x01\x05\x02\x00\x00",
	"\x02\x01\x00\x01\x01\x05\x02\x00\x00\x01",
	"\x02\x01\x00\x01\x01\x05\x02\x00\x00\x01\x01",
	"\x02\x01\x00\x01\x01\x05\x02\x00\x00\x01\x01\x02",
	"\x02\x01\x00\x01\x01\x05\x02\x00\x00\x01\x01\x02\x07",
}

// A number is not minimal, too large, or cut off, in each place, whatever follows it.
func TestDecodeOfWrongNumbers(t *testing.T) {
	table := []string{"a", "x"}
	for _, place := range places {
		for _, c := range wrongNumbers {
			for _, rest := range []string{"\x00", "\x01", "\x80", "\x01\x00\x01\x05", "\x80\x00\x80\x00", strings.Repeat("\x01", 20), "\x05"} {
				expectError(t, table, c.e, []byte(place+c.b+rest)...)
			}
		}
		for _, cut := range cutNumbers {
			expectError(t, table, api.ErrEOF, []byte(place+cut)...)
		}
	}
	b := places[len(places)-1] + "\x08"
	expectDecode(t, table, []byte(b), []Record{record(lengths(5), "a", "x"), record(lengths(7, 8), "a", "a", "x", "x")}, api.OK)
}

// A number of elements is greater than the number of bytes that follow, which is found before any error in them.
func TestDecodeOfTooGreatNumbers(t *testing.T) {
	table := []string{"a", "x"}
	rests := []string{"", "\x00", "\x05", "\x80\x00", "\x00\x00\x00", "\x01\x00", "\x00\x01\x01\x05", strings.Repeat("\x80", 9) + "\x02", strings.Repeat("\x01", 126), strings.Repeat("\x00", 127), strings.Repeat("\x01", 300)}
	for _, place := range []string{"", "\x01", "\x01\x00", "\x01\x01\x00\x01", "\x02\x00\x01\x05", "\x02\x00\x01\x05\x00"} {
		for _, rest := range rests {
			n := uint64(len(rest))
			for _, count := range []uint64{n + 1, n + 2, n + 100, 1<<31 + n, 1<<32 + n, 1<<63 - 1, 1<<63 + n, math.MaxUint64 - n, math.MaxUint64} {
				expectError(t, table, api.ErrEOF, slices.Concat([]byte(place), numbers(count), []byte(rest))...)
			}
		}
	}
}

// A number of elements is equal to the number of bytes that follow, so that the elements are read.
func TestDecodeOfGreatNumbers(t *testing.T) {
	table := []string{"a", "x"}
	for n := 2; n < 300; n++ {
		zeros, ones, wrong := make([]byte, n), bytes.Repeat([]byte{1}, n), bytes.Repeat([]byte{2}, n)
		count := numbers(uint64(n))
		// Records: the first one has no labels and no chunks.
		expectError(t, table, api.ErrChunks, slices.Concat(count, zeros)...)
		// Labels: the first name is not in the table.
		expectError(t, table, api.ErrSymbol, slices.Concat([]byte{1}, count, wrong)...)
		expectError(t, table, api.ErrEOF, slices.Concat([]byte{1}, count, ones)...)
		// Chunks: all of them are right, or the first one is not.
		expectDecode(t, table, slices.Concat([]byte{1, 0}, count, ones), []Record{record(slices.Repeat(lengths(1), n))}, api.OK)
		expectError(t, table, api.ErrChunks, slices.Concat([]byte{1, 0}, count, zeros)...)
	}
	expectError(t, table, api.ErrEOF, 1, 0)
	expectError(t, table, api.ErrEOF, 2, 0, 0x80)
	expectError(t, table, api.ErrMinimal, 2, 0x80, 0)
	expectError(t, table, api.ErrSymbol, 1, 1, 2)
	expectError(t, table, api.ErrMinimal, 1, 2, 0x80, 0)
	expectError(t, table, api.ErrMinimal, 1, 0, 2, 0x80, 0)
	expectDecode(t, table, []byte{1, 0, 1, 1}, []Record{record(lengths(1))}, api.OK)
}

// Indices just inside and just outside the table, and far outside, of the name and of the value, in the first and in later labels.
func TestDecodeOfIndices(t *testing.T) {
	for _, n := range []int{1, 2, 3, 127, 128, 129, 16384, 16385} {
		table := ascending(n)
		inside, last := uint64(n-1), table[n-1]
		expectDecode(t, table, numbers(1, 1, inside, 0, 1, 5), []Record{record(lengths(5), last, table[0])}, api.OK)
		expectDecode(t, table, numbers(1, 1, 0, inside, 1, 5), []Record{record(lengths(5), table[0], last)}, api.OK)
		expectDecode(t, table, numbers(1, 2, inside, inside, inside, inside, 1, 5), []Record{record(lengths(5), last, last, last, last)}, api.OK)
		for _, wrong := range []uint64{uint64(n), uint64(n) + 1, 1 << 31, 1 << 32, 1<<32 + inside, 1<<63 - 1, 1 << 63, 1<<63 + inside, math.MaxUint64} {
			expectError(t, table, api.ErrSymbol, numbers(1, 1, wrong, 0, 1, 5)...)
			expectError(t, table, api.ErrSymbol, numbers(1, 1, 0, wrong, 1, 5)...)
			expectError(t, table, api.ErrSymbol, numbers(1, 1, wrong, wrong, 1, 5)...)
			expectError(t, table, api.ErrSymbol, numbers(1, 2, 0, inside, wrong, 0, 1, 5)...)
			expectError(t, table, api.ErrSymbol, numbers(1, 2, 0, inside, 0, wrong, 1, 5)...)
			expectError(t, table, api.ErrSymbol, numbers(2, 0, 1, 5, 1, wrong, 0, 1, 5)...)
			expectError(t, table, api.ErrSymbol, numbers(2, 0, 1, 5, 1, 0, wrong, 1, 5)...)
			// Nothing follows the index.
			expectError(t, table, api.ErrSymbol, numbers(1, 1, wrong)...)
			expectError(t, table, api.ErrSymbol, numbers(1, 1, 0, wrong)...)
		}
	}
}

func TestDecodeWithEmptyTable(t *testing.T) {
	for _, table := range [][]string{nil, {}, []string{"a", "x"}[:0]} {
		expectDecode(t, table, []byte{0}, nil, api.OK)
		expectDecode(t, table, []byte{1, 0, 1, 5}, []Record{record(lengths(5))}, api.OK)
		for i := range byte(128) {
			expectError(t, table, api.ErrSymbol, 1, 1, i, 0, 1, 5)
		}
	}
}

func TestDecodeOfRecordsWithoutChunks(t *testing.T) {
	table := []string{"a", "x"}
	right, wrong := record(lengths(5, 6), "a", "x"), record(nil, "a", "x")
	for _, x := range []Record{record(nil), wrong, record(nil, "a", "x", "x", "x")} {
		expectError(t, table, api.ErrChunks, encodingOf(table, x)...)
		expectError(t, table, api.ErrChunks, encodingOf(table, x, right, right)...)
		expectError(t, table, api.ErrChunks, encodingOf(table, right, x, right)...)
		expectError(t, table, api.ErrChunks, encodingOf(table, right, right, x)...)
		expectError(t, table, api.ErrChunks, encodingOf(table, x, x)...)
	}
}

func TestDecodeOfLengths(t *testing.T) {
	for _, right := range []uint64{1, 2, 127, 128, 1 << 20, 1<<31 - 2, 1<<31 - 1} {
		n := int(right)
		expectDecode(t, nil, numbers(1, 0, 1, right), []Record{record(lengths(n))}, api.OK)
		expectDecode(t, nil, numbers(1, 0, 3, right, 1, right), []Record{record(lengths(n, 1, n))}, api.OK)
		expectDecode(t, nil, numbers(2, 0, 1, right, 0, 2, 1, right), []Record{record(lengths(n)), record(lengths(1, n))}, api.OK)
	}
	for _, wrong := range []uint64{0, 1 << 31, 1<<31 + 1, 1<<32 - 1, 1 << 32, 1<<32 + 1, 1<<32 + 5, 1<<63 - 1, 1 << 63, 1<<63 + 1, 1<<63 + 5, math.MaxUint64} {
		expectError(t, nil, api.ErrChunks, numbers(1, 0, 1, wrong)...)
		expectError(t, nil, api.ErrChunks, numbers(1, 0, 2, wrong, 5)...)
		expectError(t, nil, api.ErrChunks, numbers(1, 0, 2, 5, wrong)...)
		expectError(t, nil, api.ErrChunks, numbers(1, 0, 3, 5, wrong, 5)...)
		expectError(t, nil, api.ErrChunks, numbers(2, 0, 1, wrong, 0, 1, 5)...)
		expectError(t, nil, api.ErrChunks, numbers(2, 0, 1, 5, 0, 1, wrong)...)
		expectError(t, nil, api.ErrChunks, numbers(2, 0, 1, 5, 0, 2, 5, wrong)...)
	}
}

func TestDecodeOfMoreBytes(t *testing.T) {
	for _, c := range manyLists() {
		b := encodingOf(c.t, c.l...)
		for _, rest := range [][]byte{{0}, {1}, {0x80}, {0xff}, {0x80, 0}, {0, 1, 5}, make([]byte, 20), b} {
			expectError(t, c.t, api.ErrTrailing, slices.Concat(b, rest)...)
		}
	}
	for i := range 256 {
		expectError(t, nil, api.ErrTrailing, 0, byte(i))
		expectError(t, nil, api.ErrTrailing, 1, 0, 1, 5, byte(i))
	}
}

// What is read first is reported, where several errors apply.
func TestFirstErrorOfDecode(t *testing.T) {
	minimal, overflow, limit := "\x80\x00", strings.Repeat("\x80", 9)+"\x02", "\x80\x80\x80\x80\x08"
	for _, c := range []struct {
		b    string
		want api.Errno
	}{
		// A name, before its value and before what follows the labels.
		{"\x01\x01\x02\x02\x00", api.ErrSymbol},
		{"\x01\x01\x02" + minimal, api.ErrSymbol},
		{"\x01\x01" + minimal + "\x02", api.ErrMinimal},
		{"\x01\x01" + overflow + minimal, api.ErrOverflow},
		{"\x01\x01\x00\x02\x00", api.ErrSymbol},
		{"\x01\x01\x00\x02" + minimal, api.ErrSymbol},
		{"\x01\x01\x00" + minimal + "\x00", api.ErrMinimal},
		{"\x01\x01\x02\x00\x01\x00", api.ErrSymbol},
		{"\x01\x01\x00\x02\x01" + limit, api.ErrSymbol},
		{"\x01\x02\x00\x00\x02\x00\x00", api.ErrSymbol},
		{"\x01\x02\x00\x02" + minimal + "\x00", api.ErrSymbol},
		{"\x01\x02\x00" + minimal + "\x02\x00", api.ErrMinimal},
		{"\x01\x01\x02\x00\x7f", api.ErrSymbol},
		{"\x01\x01\x02", api.ErrSymbol},
		// A number of elements, before the elements.
		{"\x7f\x01\x02", api.ErrEOF},
		{"\x7f\x00\x00", api.ErrEOF},
		{"\x7f" + minimal, api.ErrEOF},
		{"\x01\x7f\x02", api.ErrEOF},
		{"\x01\x7f" + minimal, api.ErrEOF},
		{"\x01\x00\x7f\x00", api.ErrEOF},
		{"\x01\x00\x7f" + limit, api.ErrEOF},
		{"\x01\x00\x7f" + minimal, api.ErrEOF},
		{minimal + "\x01\x02", api.ErrMinimal},
		{"\x01" + overflow + "\x02", api.ErrOverflow},
		{"\x01\x00" + minimal + "\x00", api.ErrMinimal},
		// A number of chunks of 0, before what follows it.
		{"\x02\x00\x00" + minimal, api.ErrChunks},
		{"\x02\x00\x00\x01\x02", api.ErrChunks},
		{"\x01\x00\x00\x00", api.ErrChunks},
		{"\x01\x00\x00", api.ErrChunks},
		{"\x02\x00\x00\x7f", api.ErrChunks},
		// A length, before what follows it.
		{"\x01\x00\x02\x00" + minimal, api.ErrChunks},
		{"\x01\x00\x02" + limit + minimal, api.ErrChunks},
		{"\x01\x00\x02" + minimal + "\x00", api.ErrMinimal},
		{"\x01\x00\x02" + overflow + "\x00", api.ErrOverflow},
		{"\x01\x00\x02\x05" + limit + "\x00", api.ErrChunks},
		{"\x02\x00\x01\x00\x01\x02\x00", api.ErrChunks},
		{"\x02\x00\x01" + limit + "\x01\x02\x00", api.ErrChunks},
		{"\x01\x00\x01\x00\x00", api.ErrChunks},
		{"\x02\x00\x01\x00", api.ErrChunks},
		// The errors of a record, before those of later ones.
		{"\x02\x01\x02\x00\x01\x05\x00\x00", api.ErrSymbol},
		{"\x02\x00\x00\x01\x02\x00\x01\x05", api.ErrChunks},
		{"\x02\x00\x01\x05\x01\x02\x00\x01\x00", api.ErrSymbol},
		{"\x03\x00\x01\x05\x00\x00\x01\x02\x00\x01\x05", api.ErrChunks},
		// What follows the last record is not read.
		{"\x00" + minimal, api.ErrTrailing},
		{"\x00" + overflow, api.ErrTrailing},
		{"\x00\x01\x00\x00", api.ErrTrailing},
		{"\x01\x00\x01\x05\x01\x02", api.ErrTrailing},
		{"\x01\x00\x01\x05" + minimal, api.ErrTrailing},
		{"\x01\x00\x01\x05\x80", api.ErrTrailing},
	} {
		expectError(t, []string{"a", "x"}, c.want, []byte(c.b)...)
	}
}

// Elements behind the end of a slice do not belong to it.
func TestDecodeStaysWithinTheSlices(t *testing.T) {
	table, b := []string{"a", "x", "y"}, []byte{1, 1, 0, 1, 1, 20, 0}
	expectError(t, table, api.ErrTrailing, b...)
	for n := range 6 {
		expectError(t, table, api.ErrEOF, b[:n]...)
	}
	expectDecode(t, table[:2], b[:6], []Record{record(lengths(20), "a", "x")}, api.OK)
	expectError(t, table[:1], api.ErrSymbol, b[:6]...)
}

// Decoding keeps and shares nothing, and no two lists of a result share memory.
func TestDecodeSharesNoMemory(t *testing.T) {
	for _, c := range manyLists() {
		b, table := encodingOf(c.t, c.l...), slices.Clone(c.t)
		one, _ := Decode(table, b)
		two, _ := Decode(table, b)
		for i, x := range one {
			clear(x.Labels[:cap(x.Labels)])
			clear(x.Chunks[:cap(x.Chunks)])
			if !isEqual(one[i+1:], c.l[i+1:]) {
				t.Errorf("the records of %x share memory", b)
			}
		}
		clear(one[:cap(one)])
		clear(table)
		clear(b)
		if !isEqual(two, c.l) {
			t.Errorf("the records %s have become %s", shown(c.l), shown(two))
		}
	}
}

// P13.3

// Strings that are only names, only values, both, or neither.
func TestUnused(t *testing.T) {
	table := []string{"a", "b", "x", "y"}
	for _, c := range []struct {
		l    []Record
		want int
	}{
		{nil, 0},
		{[]Record{}, 0},
		{[]Record{record(lengths(1))}, 0},
		{[]Record{record(lengths(1), "a", "a")}, 1},
		{[]Record{record(lengths(1), "a", "b")}, 2},
		{[]Record{record(lengths(1), "b", "a")}, 2},
		{[]Record{record(lengths(1), "a", "y")}, 1},
		{[]Record{record(lengths(1), "y", "a")}, 1},
		{[]Record{record(lengths(1), "y", "y")}, 0},
		{[]Record{record(lengths(1), "b", "x", "b", "y")}, 0},
		{[]Record{record(lengths(1), "x", "b", "y", "b")}, 0},
		{[]Record{record(lengths(1), "a", "x", "a", "y")}, 1},
		{[]Record{record(lengths(1), "a", "b", "y", "b")}, 2},
		{[]Record{record(lengths(1), "a", "b", "x", "a")}, 3},
		{[]Record{record(lengths(1), "a", "b", "b", "x")}, 3},
		{[]Record{record(lengths(1), "a", "b", "x", "y")}, -1},
		{[]Record{record(lengths(1), "y", "x", "b", "a")}, -1},
		{[]Record{record(lengths(1), "a", "x"), record(lengths(1), "b", "y")}, -1},
		{[]Record{record(lengths(1), "b", "y"), record(lengths(1)), record(lengths(1), "x", "a")}, -1},
		{[]Record{record(lengths(1), "a", "x"), record(lengths(1), "b", "x")}, 3},
		{[]Record{record(lengths(1), "a", "x"), record(lengths(1), "a", "y")}, 1},
		{[]Record{record(lengths(1), "a", "x"), record(lengths(1), "a", "x")}, 1},
		// The records need not be complete for the table.
		{[]Record{record(nil, "a", "b"), record(lengths(0), "x", "y")}, -1},
		{[]Record{record(nil, "a", "c", "", "b"), record(lengths(-1), "z", "x")}, 3},
		{[]Record{record(nil, "y", "\xff", "x", "b", "a", "aa")}, -1},
		{[]Record{record(nil, "ab", "c"), record(nil, "B", "xx")}, 0},
	} {
		expectUnused(t, table, c.l, c.want)
	}
}

func TestUnusedOfEmptyTable(t *testing.T) {
	for _, table := range [][]string{nil, {}, []string{"a", "x"}[:0]} {
		expectUnused(t, table, nil, -1)
		expectUnused(t, table, []Record{record(lengths(1))}, -1)
		expectUnused(t, table, []Record{record(lengths(1), "a", "x")}, -1)
	}
}

func TestUnusedOfTableOfOneString(t *testing.T) {
	for _, s := range []string{"", "a", "\xff"} {
		expectUnused(t, []string{s}, nil, 0)
		expectUnused(t, []string{s}, []Record{record(lengths(1))}, 0)
		expectUnused(t, []string{s}, []Record{record(lengths(1), "b", "c")}, 0)
		expectUnused(t, []string{s}, []Record{record(lengths(1), s, "c")}, -1)
		expectUnused(t, []string{s}, []Record{record(lengths(1), "b", s)}, -1)
		expectUnused(t, []string{s}, []Record{record(lengths(1), s, s)}, -1)
	}
}

// Each string of a table, and each pair of them, is the only one that is not used.
func TestUnusedOfEachString(t *testing.T) {
	table := ascending(60)
	for i := range table {
		for j := i; j < len(table); j++ {
			var names, values, all []Record
			for k, s := range table {
				if k != i && k != j {
					names = append(names, record(lengths(1), s, "other"))
					values = append(values, record(lengths(1), "other", s))
					all = append(all, record(lengths(1), s, s))
				}
			}
			expectUnused(t, table, names, i)
			expectUnused(t, table, values, i)
			expectUnused(t, table, all, i)
			expectUnused(t, table, append(all, record(lengths(1), table[i], table[j])), -1)
		}
	}
}

func TestUnusedEqualsReference(t *testing.T) {
	source := rand.New(rand.NewSource(131))
	count := map[bool]int{}
	for i := range 3000 {
		table := ascending(1 + i%12)
		l := randomRecords(source, table, source.Intn(20))
		if source.Intn(3) == 0 {
			l = randomRecords(source, ascending(15), source.Intn(30))
		}
		used := map[string]bool{}
		for _, x := range l {
			for _, label := range x.Labels {
				used[label.Name], used[label.Value] = true, true
			}
		}
		want := slices.IndexFunc(table, func(s string) bool { return !used[s] })
		expectUnused(t, table, l, want)
		count[want < 0]++
	}
	if count[true] < 300 || count[false] < 300 {
		t.Errorf("the strings of %d tables are used, and those of %d are not", count[true], count[false])
	}
}

// Elements behind the end of a slice do not belong to it.
func TestUnusedStaysWithinTheSlices(t *testing.T) {
	table := []string{"a", "b", "c", "d"}
	l := []Record{record(lengths(1), "a", "b", "c", "c"), record(lengths(1), "d", "d")}
	expectUnused(t, table, l, -1)
	expectUnused(t, table, l[:1], 3)
	expectUnused(t, table[:3], l[:1], -1)
	expectUnused(t, table, l[:0], 0)
	l[0].Labels = l[0].Labels[:1]
	expectUnused(t, table, l, 2)
	expectUnused(t, table[:2], l, -1)
}

func TestTotal(t *testing.T) {
	for _, c := range []struct {
		l    []Record
		want int
	}{
		{nil, 0},
		{[]Record{}, 0},
		{[]Record{record(nil)}, 0},
		{[]Record{record(nil, "a", "x"), record(nil)}, 0},
		{[]Record{record(lengths(20), "a", "x")}, 20},
		{[]Record{record(lengths(0))}, 0},
		{[]Record{record(lengths(1, 20, 300))}, 321},
		{[]Record{record(lengths(1)), record(lengths(20)), record(lengths(300))}, 321},
		{[]Record{record(lengths(1, 20)), record(nil), record(lengths(300, 4000, 50000), "a", "x")}, 54321},
		{[]Record{record(lengths(5, 5)), record(lengths(5, 5))}, 20},
		{[]Record{record(lengths(most))}, most},
		{[]Record{record(lengths(most, most)), record(lengths(most), "a", "x")}, 3 * most},
		// The lengths are not checked.
		{[]Record{record(lengths(-5, 0, 7)), record(lengths(more))}, more + 2},
		{[]Record{record(lengths(-1)), record(lengths(-1, -1))}, -3},
		{[]Record{record(lengths(math.MinInt64, math.MaxInt64, 1))}, 0},
	} {
		expectTotal(t, c.l, c.want)
	}
}

func TestTotalOfManyChunks(t *testing.T) {
	var l []Record
	want := 0
	for i := range 300 {
		var x Record
		for j := range i % 50 {
			x.Chunks = append(x.Chunks, i*j+7)
			want += i*j + 7
		}
		l = append(l, x)
		expectTotal(t, l, want)
	}
}

// Elements behind the end of a slice do not belong to it.
func TestTotalStaysWithinTheSlices(t *testing.T) {
	l := []Record{record(lengths(1, 20)[:1]), record(lengths(300))}
	expectTotal(t, l, 301)
	expectTotal(t, l[:1], 1)
	expectTotal(t, l[:0], 0)
}

// P13.4

func TestDecodeInvertsEncode(t *testing.T) {
	table := ascending(2000)
	source := rand.New(rand.NewSource(132))
	large := list{table, randomRecords(source, table, 30000)}
	for _, c := range append(manyLists(), large) {
		b, e := Encode(c.t, c.l)
		if e != api.OK {
			t.Errorf("Encode of %s returns %v", shown(c.l), e)
		}
		expectDecode(t, c.t, b, c.l, api.OK)
	}
}

// checkDecode compares Decode with the reference, and what it accepts with Encode.
func checkDecode(t *testing.T, table []string, b []byte) api.Errno {
	t.Helper()
	l, e := referenceDecode(table, b)
	expectDecode(t, table, b, l, e)
	if e == api.OK {
		expectEncode(t, table, l, b, api.OK)
	}
	return e
}

// expectCounts checks that each of some errors occurred often.
func expectCounts(t *testing.T, count map[api.Errno]int, least int, errors ...api.Errno) {
	t.Helper()
	for _, e := range errors {
		if count[e] < least {
			t.Errorf("only %d results are %v", count[e], e)
		}
	}
}

// All strings of at most two bytes, and all of at most seven bytes out of a few, with small tables.
func TestDecodeOfAllShortBytes(t *testing.T) {
	table := []string{"a", "x"}
	count := map[api.Errno]int{}
	for i := range 1 << 8 {
		count[checkDecode(t, table, []byte{byte(i)})]++
	}
	for i := range 1 << 16 {
		count[checkDecode(t, table, []byte{byte(i >> 8), byte(i)})]++
	}
	var extend func(n int, b []byte)
	extend = func(n int, b []byte) {
		count[checkDecode(t, table[:n], b)]++
		if len(b) < 7 {
			for _, c := range []byte{0, 1, 2, 3, 0x80} {
				extend(n, append(b[:len(b):len(b)], c))
			}
		}
	}
	for n := range 3 {
		extend(n, nil)
	}
	expectCounts(t, count, 200, api.OK, api.ErrEOF, api.ErrMinimal, api.ErrSymbol, api.ErrChunks, api.ErrTrailing)
}

// Every byte of a short encoding, and some of a long one, is changed to some others.
func TestDecodeOfChangedBytes(t *testing.T) {
	source := rand.New(rand.NewSource(133))
	count := map[api.Errno]int{}
	for _, c := range manyLists() {
		b := encodingOf(c.t, c.l...)
		places := source.Perm(len(b))
		if len(b) > 80 {
			places = places[:40]
		}
		for _, i := range places {
			for _, change := range []byte{1, 2, 3, 4, 0x40, 0x80, 0x81, 0xff, b[i], ^b[i], byte(1 + source.Intn(255))} {
				if change != 0 {
					changed := bytes.Clone(b)
					changed[i] ^= change
					count[checkDecode(t, c.t, changed)]++
				}
			}
		}
	}
	expectCounts(t, count, 500, api.OK, api.ErrEOF, api.ErrMinimal, api.ErrSymbol, api.ErrChunks, api.ErrTrailing)
}

// Every byte of a few encodings is changed to every other one.
func TestDecodeOfAllChangedBytes(t *testing.T) {
	for _, c := range encodings {
		for i := range c.b {
			changed := []byte(c.b)
			for range 255 {
				changed[i]++
				checkDecode(t, c.t, changed)
			}
		}
	}
}

func TestDecodeOfAnyBytes(t *testing.T) {
	source := rand.New(rand.NewSource(134))
	table := ascending(20)
	for range 100000 {
		b := make([]byte, source.Intn(40))
		source.Read(b)
		for i := range b {
			b[i] >>= source.Intn(9)
		}
		checkDecode(t, table[:source.Intn(21)], b)
	}
}

// P1, P2

func TestCallsAreIndependent(t *testing.T) {
	var group sync.WaitGroup
	for _, c := range manyLists() {
		group.Go(func() {
			b, e := Encode(c.t, c.l)
			l, f := Decode(c.t, b)
			if e != api.OK || f != api.OK || !isEqual(l, c.l) || Unused(c.t, l) != Unused(c.t, c.l) || Total(l) != Total(c.l) {
				t.Errorf("Decode returns %s and %v, want %s", shown(l), f, shown(c.l))
			}
		})
	}
	group.Wait()
}
