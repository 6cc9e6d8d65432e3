package symbols

import (
	"bytes"
	"encoding/binary"
	"fmt"
	"math"
	"math/rand"
	"slices"
	"sort"
	"strings"
	"sync"
	"testing"

	"tsblock/api"
	"tsblock/varint"
)

// tables are tables with their encodings, written out by hand.
var tables = []struct {
	t []string
	b string
}{
	{nil, "\x00"},
	{[]string{""}, "\x01\x00"},
	{[]string{"a"}, "\x01\x01a"},
	{[]string{"a", "b"}, "\x02\x01\x61\x01\x62"},
	{[]string{"", "\x00"}, "\x02\x00\x01\x00"},
	{[]string{"", "a"}, "\x02\x00\x01a"},
	{[]string{"\x00", "\x00\x00", "\x00\x00\x00"}, "\x03\x01\x00\x02\x00\x00\x03\x00\x00\x00"},
	{[]string{"a", "aa", "ab", "b"}, "\x04\x01a\x02aa\x02ab\x01b"},
	{[]string{"a", "a\x00", "a\x01", "aa"}, "\x04\x01a\x02a\x00\x02a\x01\x02aa"},
	{[]string{"Z", "a", "z"}, "\x03\x01Z\x01a\x01z"},
	{[]string{"10", "9"}, "\x02\x0210\x019"},
	{[]string{"\x7f", "\x80"}, "\x02\x01\x7f\x01\x80"},
	{[]string{"\x00", "\x7f", "\x80", "\xff", "\xff\x00", "\xff\xff"}, "\x06\x01\x00\x01\x7f\x01\x80\x01\xff\x02\xff\x00\x02\xff\xff"},
	{[]string{"a\x7f", "a\x80b", "a\xffa"}, "\x03\x02a\x7f\x03a\x80b\x03a\xffa"},
	{[]string{"z", "ä", "ö", "\xff"}, "\x04\x01z\x02\xc3\xa4\x02\xc3\xb6\x01\xff"},
	{[]string{"\n", "name", "value"}, "\x03\x01\n\x04name\x05value"},
}

// long returns a string of n bytes.
func long(n int) string { return strings.Repeat("m", n) }

// ascending returns n strings in ascending order.
func ascending(n int) []string {
	var t []string
	for i := range n {
		t = append(t, string(binary.BigEndian.AppendUint32(nil, uint32(i))))
	}
	return t
}

// less compares two strings byte by byte, as the chapter says it.
func less(a, b string) bool {
	for i := range min(len(a), len(b)) {
		if a[i] != b[i] {
			return a[i] < b[i]
		}
	}
	return len(a) < len(b)
}

// referenceTable puts strings into a table one by one.
func referenceTable(l []string) []string {
	var t []string
	for _, s := range l {
		if i, found := referenceIndex(t, s); !found {
			t = append(t, s)
			for j := len(t) - 1; j > i; j-- {
				t[j], t[j-1] = t[j-1], t[j]
			}
		}
	}
	return t
}

// referenceIndex returns the number of strings less than s, and whether s is in the table.
func referenceIndex(t []string, s string) (int, bool) {
	for i, other := range t {
		if !less(other, s) {
			return i, other == s
		}
	}
	return len(t), false
}

// encodingOf returns strings as a table is encoded, whether or not they are one.
func encodingOf(t ...string) []byte {
	b := binary.AppendUvarint(nil, uint64(len(t)))
	for _, s := range t {
		b = append(binary.AppendUvarint(b, uint64(len(s))), s...)
	}
	return b
}

// counted returns bytes with a number before them.
func counted(x uint64, rest ...byte) []byte { return append(binary.AppendUvarint(nil, x), rest...) }

func referenceEncode(t []string) ([]byte, api.Errno) {
	for _, s := range t {
		if len(s) > 65535 {
			return nil, api.ErrLimit
		}
	}
	for i := range t {
		if i > 0 && !less(t[i-1], t[i]) {
			return nil, api.ErrOrder
		}
	}
	return encodingOf(t...), api.OK
}

// referenceDecode reads strings one after the other.
func referenceDecode(b []byte) ([]string, api.Errno) {
	count, at, e := varint.Get(b, 0)
	if e != api.OK {
		return nil, e
	}
	if count > uint64(len(b[at:])) {
		return nil, api.ErrEOF
	}
	var t []string
	for i := range int(count) {
		n, start, e := varint.Get(b, at)
		if e != api.OK {
			return nil, e
		}
		if n > 65535 {
			return nil, api.ErrLimit
		}
		if int(n) > len(b[start:]) {
			return nil, api.ErrEOF
		}
		at = start + int(n)
		t = append(t, string(b[start:at]))
		if i > 0 && !less(t[i-1], t[i]) {
			return nil, api.ErrOrder
		}
	}
	if at < len(b) {
		return nil, api.ErrTrailing
	}
	return t, api.OK
}

// randomString returns a string with few different bytes, so that strings are often equal or prefixes of others.
func randomString(source *rand.Rand) string {
	var s []byte
	for range source.Intn(5) {
		s = append(s, "\x00a\x7f\x80\xff"[source.Intn(5)])
	}
	return string(s)
}

func randomStrings(source *rand.Rand, n int) []string {
	var l []string
	for range n {
		l = append(l, randomString(source))
	}
	return l
}

// manyTables returns those written out by hand, tables with numbers and lengths at the bounds of their encodings, and random ones.
func manyTables() [][]string {
	var all [][]string
	for _, c := range tables {
		all = append(all, c.t)
	}
	for _, n := range []int{1, 2, 3, 126, 127, 128, 129, 300, 1000} {
		all = append(all, ascending(n))
	}
	for _, n := range []int{126, 127, 128, 129, 16383, 16384, 65534, 65535} {
		all = append(all, []string{long(n)}, []string{"", long(n)}, []string{long(n - 1), long(n), long(n-1) + "n"})
	}
	source := rand.New(rand.NewSource(10))
	for range 300 {
		all = append(all, referenceTable(randomStrings(source, source.Intn(40))))
	}
	return all
}

// shown returns strings for a message.
func shown(l []string) string {
	text := fmt.Sprintf("%q", l)
	if len(text) > 300 {
		return fmt.Sprintf("%s ... (%d strings)", text[:300], len(l))
	}
	return text
}

// shownBytes returns bytes for a message.
func shownBytes(b []byte) string {
	if len(b) > 100 {
		return fmt.Sprintf("%x ... (%d bytes)", b[:100], len(b))
	}
	return fmt.Sprintf("%x", b)
}

// expectTable checks all that Table does.
func expectTable(t *testing.T, l, want []string) {
	t.Helper()
	kept := slices.Clone(l)
	if got := Table(l...); !slices.Equal(got, want) {
		t.Errorf("Table of %s returns %s, want %s", shown(l), shown(got), shown(want))
	}
	if !slices.Equal(l, kept) {
		t.Errorf("Table has changed %s to %s", shown(kept), shown(l))
	}
}

// expectIndex checks that a string has an index in a table.
func expectIndex(t *testing.T, table []string, s string, want int) {
	t.Helper()
	if i, ok := Index(table, s); i != want || !ok {
		t.Errorf("Index of %s in %s returns %d and %v, want %d", shown([]string{s}), shown(table), i, ok, want)
	}
}

// expectNoIndex checks that a string is not found in a table.
func expectNoIndex(t *testing.T, table []string, s string) {
	t.Helper()
	if i, ok := Index(table, s); i != 0 || ok {
		t.Errorf("Index of %s in %s returns %d and %v", shown([]string{s}), shown(table), i, ok)
	}
}

// expectEncode checks all that Encode does.
func expectEncode(t *testing.T, table []string, want []byte, wantError api.Errno) {
	t.Helper()
	kept := slices.Clone(table)
	b, e := Encode(table)
	if e != wantError || !bytes.Equal(b, want) {
		t.Errorf("Encode of %s returns %s and %v, want %s and %v", shown(table), shownBytes(b), e, shownBytes(want), wantError)
	}
	if !slices.Equal(table, kept) {
		t.Errorf("Encode has changed %s to %s", shown(kept), shown(table))
	}
}

// expectRefused checks that Encode returns an error alone.
func expectRefused(t *testing.T, want api.Errno, table ...string) {
	t.Helper()
	expectEncode(t, table, nil, want)
}

// expectDecode checks all that Decode does.
func expectDecode(t *testing.T, b []byte, want []string, wantError api.Errno) {
	t.Helper()
	kept := bytes.Clone(b)
	table, e := Decode(b)
	if e != wantError || !slices.Equal(table, want) {
		t.Errorf("Decode of %s returns %s and %v, want %s and %v", shownBytes(b), shown(table), e, shown(want), wantError)
	}
	if !bytes.Equal(b, kept) {
		t.Errorf("Decode has changed %s to %s", shownBytes(kept), shownBytes(b))
	}
}

// expectError checks that Decode returns an error alone.
func expectError(t *testing.T, b []byte, want api.Errno) {
	t.Helper()
	expectDecode(t, b, nil, want)
}

// P10.1

func TestTable(t *testing.T) {
	for _, c := range []struct{ l, want []string }{
		{nil, nil},
		{[]string{}, nil},
		{[]string{""}, []string{""}},
		{[]string{"", ""}, []string{""}},
		{[]string{"b", "a", "b"}, []string{"a", "b"}},
		{[]string{"a", "b"}, []string{"a", "b"}},
		{[]string{"a", "a", "a"}, []string{"a"}},
		{[]string{"a", "", "a", ""}, []string{"", "a"}},
		{[]string{"ab", "a", "abc", "", "b"}, []string{"", "a", "ab", "abc", "b"}},
		{[]string{"b", "ab", "aa", "a"}, []string{"a", "aa", "ab", "b"}},
		{[]string{"a\x00", "a", "\x00", "a\x00"}, []string{"\x00", "a", "a\x00"}},
		{[]string{"\xff", "\x80", "\x7f", "\x00", "\xff\xff"}, []string{"\x00", "\x7f", "\x80", "\xff", "\xff\xff"}},
		{[]string{"a\xff", "a\x80", "a\x7f", "b"}, []string{"a\x7f", "a\x80", "a\xff", "b"}},
		{[]string{"z", "a", "Z", "A"}, []string{"A", "Z", "a", "z"}},
		{[]string{"9", "10", "1"}, []string{"1", "10", "9"}},
		{[]string{"ö", "z", "ä"}, []string{"z", "ä", "ö"}},
	} {
		expectTable(t, c.l, c.want)
	}
	if got := Table(); len(got) != 0 {
		t.Errorf("Table of nothing returns %q", got)
	}
	if got := Table("b", "a", "b"); !slices.Equal(got, []string{"a", "b"}) {
		t.Errorf("Table of the example returns %q", got)
	}
}

// The lengths are not checked.
func TestTableOfLongStrings(t *testing.T) {
	most, more, much := long(api.MaxString), long(api.MaxString+1), long(3*api.MaxString)
	expectTable(t, []string{most}, []string{most})
	expectTable(t, []string{more}, []string{more})
	expectTable(t, []string{more, much, most, more, "n", "a", most}, []string{"a", most, more, much, "n"})
	expectTable(t, []string{most + "b", most + "a", most + "b"}, []string{most + "a", most + "b"})
}

// Every order of the strings, of which two are equal.
func TestTableOfAllOrders(t *testing.T) {
	want := []string{"", "a", "ab", "\xff"}
	var place func(l, rest []string)
	place = func(l, rest []string) {
		if len(rest) == 0 {
			expectTable(t, l, want)
		}
		for i, s := range rest {
			place(append(slices.Clone(l), s), slices.Delete(slices.Clone(rest), i, i+1))
		}
	}
	place(nil, []string{"", "a", "a", "ab", "ab", "\xff"})
}

func TestTableEqualsReference(t *testing.T) {
	source := rand.New(rand.NewSource(101))
	for i := range 2000 {
		l := randomStrings(source, i%100)
		expectTable(t, l, referenceTable(l))
	}
}

func TestTableOfManyStrings(t *testing.T) {
	want := ascending(50000)
	l := slices.Concat(want, want)
	rand.New(rand.NewSource(102)).Shuffle(len(l), func(i, j int) { l[i], l[j] = l[j], l[i] })
	expectTable(t, l, want)
	sort.Sort(sort.Reverse(sort.StringSlice(l)))
	expectTable(t, l, want)
	expectTable(t, want, want)
}

// Strings behind the end of a list do not belong to it.
func TestTableStaysWithinTheList(t *testing.T) {
	l := []string{"b", "a", "x", "0", "a"}
	for n := range len(l) + 1 {
		expectTable(t, l[:n], referenceTable(slices.Clone(l[:n])))
	}
}

func TestTableSharesNoMemory(t *testing.T) {
	for _, l := range [][]string{{"a"}, {"a", "b", "c"}, {"b", "a", "b"}, {"a", "a", "a", "b"}, ascending(300)} {
		kept := slices.Clone(l)
		want := referenceTable(l)
		one, two := Table(l...), Table(l...)
		clear(append(one, "x", "y", "z"))
		clear(one)
		if !slices.Equal(l, kept) || !slices.Equal(two, want) {
			t.Errorf("the table of %s shares memory", shown(kept))
		}
		clear(l)
		if !slices.Equal(two, want) {
			t.Errorf("the table of %s shares memory with its strings", shown(kept))
		}
	}
}

// Every string of a table; strings before the first one, between two, and after the last one.
func TestIndex(t *testing.T) {
	for _, table := range manyTables() {
		kept := slices.Clone(table)
		for i, s := range table {
			expectIndex(t, table, s, i)
			for _, other := range []string{s + "\x00", s + "m", s + "\xff", s[:len(s)/2], s[:max(1, len(s))-1]} {
				if want, ok := referenceIndex(table, other); ok {
					expectIndex(t, table, other, want)
				} else {
					expectNoIndex(t, table, other)
				}
			}
		}
		if !slices.Equal(table, kept) {
			t.Errorf("Index has changed %s to %s", shown(kept), shown(table))
		}
	}
}

func TestIndexOfExamples(t *testing.T) {
	table := []string{"b", "ba", "d", "f\x80"}
	for i, s := range table {
		expectIndex(t, table, s, i)
	}
	for _, s := range []string{"", "\x00", "a", "a\xff", "B", "b\x00", "b`", "bb", "baa", "ba\x00", "c", "d\x00", "e", "f", "f\x7f", "f\x81", "f\x80\x00", "g", "\x80", "\xff"} {
		expectNoIndex(t, table, s)
	}
}

func TestIndexInTableOfOneString(t *testing.T) {
	expectIndex(t, []string{""}, "", 0)
	expectNoIndex(t, []string{""}, "\x00")
	expectNoIndex(t, []string{""}, "a")
	expectIndex(t, []string{"b"}, "b", 0)
	expectNoIndex(t, []string{"b"}, "")
	expectNoIndex(t, []string{"b"}, "a")
	expectNoIndex(t, []string{"b"}, "c")
}

func TestIndexInTableWithoutStrings(t *testing.T) {
	for _, table := range [][]string{nil, {}, []string{"a", "b"}[:0]} {
		for _, s := range []string{"", "a", "b", "\x00", "\xff", long(api.MaxString), long(api.MaxString + 1)} {
			expectNoIndex(t, table, s)
		}
	}
}

// Strings behind the end of a table do not belong to it.
func TestIndexStaysWithinTheTable(t *testing.T) {
	table := ascending(100)
	for n := range table {
		for i, s := range table {
			if i < n {
				expectIndex(t, table[:n], s, i)
			} else {
				expectNoIndex(t, table[:n], s)
			}
		}
	}
}

func TestIndexOfLongStrings(t *testing.T) {
	table := []string{"a", long(api.MaxString - 1), long(api.MaxString), "n"}
	for i, s := range table {
		expectIndex(t, table, s, i)
	}
	expectNoIndex(t, table, long(api.MaxString-2))
	expectNoIndex(t, table, long(api.MaxString+1))
	expectNoIndex(t, table, long(api.MaxString-1)+"l")
	expectNoIndex(t, table, long(api.MaxString-1)+"n")
}

func TestIndexInLargeTable(t *testing.T) {
	table := ascending(100000)
	for i, s := range table {
		expectIndex(t, table, s, i)
	}
	expectNoIndex(t, table, table[500]+"\x00")
	expectNoIndex(t, table, table[99999]+"\x00")
	expectNoIndex(t, table, "")
}

// The index in a list that is no table is not specified, but a string that is found is there.
func TestIndexInOtherLists(t *testing.T) {
	source := rand.New(rand.NewSource(103))
	for range 2000 {
		l, s := randomStrings(source, source.Intn(20)), randomString(source)
		i, ok := Index(l, s)
		if ok && l[i] != s || !ok && i != 0 {
			t.Errorf("Index of %q in %q returns %d and %v", s, l, i, ok)
		}
	}
}

// P10.2

func TestEncode(t *testing.T) {
	for _, c := range tables {
		expectEncode(t, c.t, []byte(c.b), api.OK)
	}
	expectEncode(t, []string{}, []byte{0}, api.OK)
}

func TestEncodeOfExample(t *testing.T) {
	expectEncode(t, Table("b", "a", "b"), []byte{0x02, 0x01, 0x61, 0x01, 0x62}, api.OK)
}

func TestEncodeEqualsReference(t *testing.T) {
	for _, table := range manyTables() {
		expectEncode(t, table, encodingOf(table...), api.OK)
	}
	source := rand.New(rand.NewSource(104))
	count := map[api.Errno]int{}
	for range 5000 {
		l := randomStrings(source, source.Intn(5))
		if source.Intn(20) == 0 {
			l = append(l, long(api.MaxString+1), randomString(source))
		}
		b, e := referenceEncode(l)
		expectEncode(t, l, b, e)
		count[e]++
	}
	for _, e := range []api.Errno{api.OK, api.ErrLimit, api.ErrOrder} {
		if count[e] < 100 {
			t.Errorf("only %d results are %v", count[e], e)
		}
	}
}

// The numbers at which the encoding of a number has one more byte.
func TestEncodeOfNumbers(t *testing.T) {
	for n, head := range map[int]string{127: "\x7f", 128: "\x80\x01", 300: "\xac\x02", 16383: "\xff\x7f", 16384: "\x80\x80\x01", 65536: "\x80\x80\x04"} {
		table := ascending(n)
		want := []byte(head)
		for _, s := range table {
			want = append(want, "\x04"+s...)
		}
		expectEncode(t, table, want, api.OK)
	}
}

func TestEncodeOfLengths(t *testing.T) {
	for n, head := range map[int]string{127: "\x7f", 128: "\x80\x01", 16383: "\xff\x7f", 16384: "\x80\x80\x01", 65534: "\xfe\xff\x03", 65535: "\xff\xff\x03"} {
		expectEncode(t, []string{long(n)}, []byte("\x01"+head+long(n)), api.OK)
		expectEncode(t, []string{"a", long(n), "n"}, []byte("\x03\x01a"+head+long(n)+"\x01n"), api.OK)
	}
}

func TestEncodeOfTooLongStrings(t *testing.T) {
	for _, n := range []int{api.MaxString + 1, api.MaxString + 2, 2 * api.MaxString, 1 << 20} {
		expectRefused(t, api.ErrLimit, long(n))
		expectRefused(t, api.ErrLimit, "a", long(n))
		expectRefused(t, api.ErrLimit, long(n), "n")
		expectRefused(t, api.ErrLimit, "", "a", long(n), "n", "o")
		expectRefused(t, api.ErrLimit, long(n), long(n)+"n")
	}
	expectRefused(t, api.ErrLimit, Table("a", "b", long(api.MaxString+1))...)
}

func TestEncodeOfWrongOrder(t *testing.T) {
	for _, l := range [][]string{
		{"", ""}, {"a", "a"}, {"\xff", "\xff"}, {"a", "a", "b"}, {"a", "b", "b"}, {"a", "b", "b", "c"},
		{"b", "a"}, {"a", ""}, {"aa", "a"}, {"a\x00", "a"}, {"ab", "aa"}, {"b", "aa"}, {"a", "Z"},
		{"\x80", "\x7f"}, {"\xff", "\x00"}, {"a\xff", "a\x7f"}, {"ä", "z"}, {"9", "10"},
		{"a", "c", "b"}, {"b", "a", "c"}, {"a", "b", "a"}, {"", "a", ""}, {"a", "b", "c", "d", "cc"},
		{long(api.MaxString), long(api.MaxString)}, {long(api.MaxString), long(api.MaxString - 1)},
	} {
		expectRefused(t, api.ErrOrder, l...)
	}
}

// Each pair of neighbors of a table is exchanged, or made equal.
func TestEncodeOfWrongNeighbors(t *testing.T) {
	for i := range 199 {
		l := ascending(200)
		l[i], l[i+1] = l[i+1], l[i]
		expectRefused(t, api.ErrOrder, l...)
		l[i] = l[i+1]
		expectRefused(t, api.ErrOrder, l...)
	}
}

// A string that is too long is reported first, before or after strings that are out of order.
func TestFirstErrorOfEncode(t *testing.T) {
	much := long(api.MaxString + 1)
	for _, l := range [][]string{
		{much, "b", "a"}, {"b", "a", much}, {"b", much, "a"}, {much, much}, {much, "a"}, {"n", much},
		{"a", "a", much}, {much, "n", "n"}, {"b", "a", "c", much, "n"}, {"a", much, "n", "m"}, {much, ""},
	} {
		expectRefused(t, api.ErrLimit, l...)
	}
}

// Strings behind the end of a list do not belong to it.
func TestEncodeStaysWithinTheList(t *testing.T) {
	l := []string{"a", "b", "a", long(api.MaxString + 1)}
	expectEncode(t, l[:0], encodingOf(), api.OK)
	expectEncode(t, l[:1], encodingOf("a"), api.OK)
	expectEncode(t, l[:2], encodingOf("a", "b"), api.OK)
	expectRefused(t, api.ErrOrder, l[:3]...)
	expectRefused(t, api.ErrLimit, l...)
	expectEncode(t, l[2:3], encodingOf("a"), api.OK)
}

func TestEncodeSharesNoMemory(t *testing.T) {
	for _, c := range tables {
		l := slices.Clone(c.t)
		one, _ := Encode(l)
		two, _ := Encode(l)
		clear(append(one, "xyz"...))
		clear(one)
		clear(l)
		if string(two) != c.b {
			t.Errorf("the encoding of %q has become %x", c.t, two)
		}
	}
}

// P10.3

func TestDecode(t *testing.T) {
	for _, c := range tables {
		expectDecode(t, []byte(c.b), c.t, api.OK)
	}
}

func TestDecodeOfNothing(t *testing.T) {
	expectError(t, nil, api.ErrEOF)
	expectError(t, []byte{}, api.ErrEOF)
	expectError(t, []byte{0}[:0], api.ErrEOF)
}

// The number of strings is missing, not canonical, or too long, whatever follows it.
func TestDecodeOfWrongNumbers(t *testing.T) {
	for n := 1; n < 10; n++ {
		expectError(t, bytes.Repeat([]byte{0x80}, n), api.ErrEOF)
		expectError(t, bytes.Repeat([]byte{0xff}, n), api.ErrEOF)
	}
	for _, rest := range []string{"", "\x00", "\x01a", "\x01a\x01b", "\x80\x00", "\xff\xff\xff\xff"} {
		for n := 1; n < 10; n++ {
			expectError(t, []byte(strings.Repeat("\x80", n)+"\x00"+rest), api.ErrMinimal)
			expectError(t, []byte("\x81"+strings.Repeat("\x80", n-1)+"\x00"+rest), api.ErrMinimal)
		}
		for _, tenth := range []string{"\x02", "\x7f", "\x80", "\x81", "\xff"} {
			expectError(t, []byte(strings.Repeat("\x80", 9)+tenth+rest), api.ErrOverflow)
			expectError(t, []byte(strings.Repeat("\xff", 9)+tenth+rest), api.ErrOverflow)
		}
	}
}

// The number of strings is greater than the number of bytes that follow, which is found before any other error.
func TestDecodeOfTooGreatNumbers(t *testing.T) {
	for _, count := range []uint64{1, 2, 127, 128, 1 << 20, math.MaxInt32, 1 << 31, 1 << 32, math.MaxInt64, 1 << 63, math.MaxUint64} {
		expectError(t, counted(count), api.ErrEOF)
	}
	for _, rest := range []string{"\x00", "\x01a", "\x00\x00", "\x01b\x01a", "\x80\x00", "\x80\x80\x04", "\x00\x80\x00", strings.Repeat("\x80", 9) + "\x02", "\x00\x00\x00\x00"} {
		n := uint64(len(rest))
		for _, count := range []uint64{n + 1, n + 2, n + 100, 1<<31 + n, 1<<32 + n, 1<<63 + n, math.MaxUint64 - n, math.MaxUint64} {
			expectError(t, counted(count, []byte(rest)...), api.ErrEOF)
		}
	}
	for n := range 300 {
		expectError(t, counted(uint64(n+1), make([]byte, n)...), api.ErrEOF)
	}
}

// The number of strings is equal to the number of bytes that follow, so that the strings are read.
func TestDecodeOfGreatNumbers(t *testing.T) {
	expectDecode(t, []byte{0}, nil, api.OK)
	expectDecode(t, []byte{1, 0}, []string{""}, api.OK)
	expectError(t, []byte{1, 1}, api.ErrEOF)
	expectError(t, []byte{2, 0, 0}, api.ErrOrder)
	expectError(t, []byte{2, 0, 1}, api.ErrEOF)
	expectError(t, []byte{2, 1, 'a'}, api.ErrEOF)
	expectError(t, []byte{2, 0x80, 0}, api.ErrMinimal)
	expectError(t, []byte{3, 0, 1, 'a'}, api.ErrEOF)
	expectError(t, []byte{3, 0x80, 0x80, 4}, api.ErrLimit)
	expectError(t, counted(10, []byte(strings.Repeat("\x80", 9)+"\x02")...), api.ErrOverflow)
	for n := 2; n < 300; n++ {
		expectError(t, counted(uint64(n), make([]byte, n)...), api.ErrOrder)
	}
}

// The bytes end at every place: within the number, within a length, or within a string.
func TestDecodeOfCutTables(t *testing.T) {
	for _, table := range manyTables() {
		b := encodingOf(table...)
		step := 1 + len(b)/500
		for n := 0; n < len(b); n += step {
			expectError(t, b[:n], api.ErrEOF)
		}
		expectError(t, b[:len(b)-1], api.ErrEOF)
	}
}

func TestDecodeOfMissingParts(t *testing.T) {
	for _, text := range []string{
		"\x01\x01", "\x01\x02a", "\x01\x80", "\x01\xff", "\x01\x80\x80", "\x01\x7faaa", "\x01\x80\x01aaa", "\x01\xff\xff\x03",
		"\x02\x00\x01", "\x02\x00\x80", "\x02\x01a", "\x02\x01a\x01", "\x02\x01a\x02b", "\x02\x01a\x80", "\x02\x02a\x01", "\x03\x01a\x01b", "\x03\x01a\x01b\x81",
	} {
		expectError(t, []byte(text), api.ErrEOF)
	}
	for _, n := range []int{1, 2, 100, 16383, 16384, 65534, 65535} {
		b := append(counted(1, binary.AppendUvarint(nil, uint64(n))...), long(n-1)...)
		expectError(t, b, api.ErrEOF)
		expectDecode(t, append(b, 'm'), []string{long(n)}, api.OK)
	}
}

// The length of a string is not canonical, or too long, for the first string and for later ones.
func TestDecodeOfWrongLengths(t *testing.T) {
	for _, before := range [][]string{nil, {""}, {"a"}, {"a", "b"}} {
		head := encodingOf(before...)
		for _, rest := range []string{"", "c", "c\x01d", long(70000)} {
			for _, last := range []byte{1, 2} {
				head[0] = byte(len(before)) + last
				for n := 1; n < 10; n++ {
					expectError(t, slices.Concat(head, bytes.Repeat([]byte{0x80}, n), []byte{0}, []byte(rest)), api.ErrMinimal)
					expectError(t, slices.Concat(head, []byte{0x81}, bytes.Repeat([]byte{0x80}, n-1), []byte{0}, []byte(rest)), api.ErrMinimal)
				}
				for _, tenth := range []byte{2, 0x80, 0xff} {
					expectError(t, slices.Concat(head, bytes.Repeat([]byte{0xff}, 9), []byte{tenth}, []byte(rest)), api.ErrOverflow)
				}
			}
		}
	}
}

// The length of a string is greater than api.MaxString, whether or not as many bytes follow.
func TestDecodeOfTooLongStrings(t *testing.T) {
	for _, n := range []uint64{65536, 65537, 1 << 17, 1 << 31, 1 << 32, 1<<32 + 1, 1 << 63, 1<<63 + 1, math.MaxUint64} {
		length := binary.AppendUvarint(nil, n)
		for _, before := range [][]string{nil, {""}, {"a"}, {"a", "b"}} {
			head := encodingOf(before...)
			head[0]++
			for _, rest := range []string{"", "z", long(65535), long(65536), long(70000)} {
				expectError(t, slices.Concat(head, length, []byte(rest)), api.ErrLimit)
			}
		}
	}
	expectError(t, encodingOf(long(api.MaxString+1)), api.ErrLimit)
	expectError(t, encodingOf("a", long(api.MaxString+1), "n"), api.ErrLimit)
	expectError(t, encodingOf(long(api.MaxString), long(api.MaxString+1)), api.ErrLimit)
	expectDecode(t, encodingOf(long(api.MaxString)), []string{long(api.MaxString)}, api.OK)
	expectDecode(t, encodingOf("a", long(api.MaxString), "n"), []string{"a", long(api.MaxString), "n"}, api.OK)
}

func TestDecodeOfWrongOrder(t *testing.T) {
	for _, l := range [][]string{
		{"", ""}, {"a", "a"}, {"\xff", "\xff"}, {"a", "a", "b"}, {"a", "b", "b"}, {"a", "b", "b", "c"},
		{"b", "a"}, {"a", ""}, {"aa", "a"}, {"a\x00", "a"}, {"ab", "aa"}, {"b", "aa"}, {"a", "Z"},
		{"\x80", "\x7f"}, {"\xff", "\x00"}, {"a\xff", "a\x7f"}, {"ä", "z"}, {"9", "10"},
		{"a", "c", "b"}, {"b", "a", "c"}, {"a", "b", "a"}, {"", "a", ""}, {"a", "b", "c", "d", "cc"},
		{long(api.MaxString), long(api.MaxString)}, {long(api.MaxString), long(api.MaxString - 1)},
	} {
		expectError(t, encodingOf(l...), api.ErrOrder)
	}
}

func TestDecodeOfWrongNeighbors(t *testing.T) {
	for i := range 199 {
		l := ascending(200)
		l[i], l[i+1] = l[i+1], l[i]
		expectError(t, encodingOf(l...), api.ErrOrder)
		l[i] = l[i+1]
		expectError(t, encodingOf(l...), api.ErrOrder)
	}
}

func TestDecodeOfMoreBytes(t *testing.T) {
	for _, table := range manyTables() {
		b := encodingOf(table...)
		for _, more := range [][]byte{{0}, {1}, {0x80}, {0xff}, {1, 'z'}, make([]byte, 20), b} {
			expectError(t, slices.Concat(b, more), api.ErrTrailing)
		}
	}
}

// What is read first is reported, where several errors apply.
func TestFirstErrorOfDecode(t *testing.T) {
	minimal, overflow, limit := "\x80\x00", strings.Repeat("\x80", 9)+"\x02", "\x80\x80\x04"
	for _, c := range []struct {
		count byte
		rest  string
		want  api.Errno
	}{
		// The order of two strings, before what is wrong in a later one or after all of them.
		{3, "\x01b\x01a", api.ErrOrder},
		{3, "\x01b\x01a\x02c", api.ErrOrder},
		{3, "\x01b\x01a\x80", api.ErrOrder},
		{3, "\x01b\x01a" + minimal, api.ErrOrder},
		{3, "\x01b\x01a" + overflow, api.ErrOrder},
		{3, "\x01b\x01a" + limit, api.ErrOrder},
		{3, "\x01a\x01a" + limit, api.ErrOrder},
		{4, "\x01a\x01c\x01b" + minimal, api.ErrOrder},
		{4, "\x01b\x01a\x01c" + minimal, api.ErrOrder},
		{2, "\x01b\x01azzz", api.ErrOrder},
		{2, "\x00\x00zzz", api.ErrOrder},
		// What is wrong in a string, before the order of later ones.
		{4, "\x01a" + minimal + "\x01c\x01b", api.ErrMinimal},
		{4, "\x01a" + overflow + "\x01c\x01b", api.ErrOverflow},
		{4, "\x01a" + limit + "\x01c\x01b", api.ErrLimit},
		{2, "\x01b" + minimal, api.ErrMinimal},
		{2, "\x01b" + limit + "a", api.ErrLimit},
		{2, "\x02bb\x02a", api.ErrEOF},
		// What is wrong in a string, before what is wrong in a later one.
		{2, minimal + limit, api.ErrMinimal},
		{2, limit + minimal, api.ErrLimit},
		{2, overflow + limit, api.ErrOverflow},
		{2, "\x05aa" + minimal, api.ErrEOF},
		// What follows the last string is not read.
		{1, "\x01b\x01a", api.ErrTrailing},
		{1, "\x01b" + minimal, api.ErrTrailing},
		{2, "\x01a\x01b" + limit, api.ErrTrailing},
		{0, minimal, api.ErrTrailing},
	} {
		expectError(t, append([]byte{c.count}, c.rest...), c.want)
	}
}

// Bytes behind the end of a list do not belong to it.
func TestDecodeStaysWithinTheBytes(t *testing.T) {
	b := []byte("\x02\x01a\x01bc")
	expectError(t, b, api.ErrTrailing)
	expectDecode(t, b[:5], []string{"a", "b"}, api.OK)
	for n := range 5 {
		expectError(t, b[:n], api.ErrEOF)
	}
}

// Decoding keeps and shares nothing.
func TestDecodeSharesNoMemory(t *testing.T) {
	for _, c := range tables {
		b := []byte(c.b)
		one, _ := Decode(b)
		two, _ := Decode(b)
		clear(one)
		clear(b)
		if !slices.Equal(two, c.t) {
			t.Errorf("the table %q has become %q", c.t, two)
		}
		expectDecode(t, []byte(c.b), c.t, api.OK)
	}
}

// P10.4

// The number of strings has no limit; there may be more of them than a block may have series.
func TestDecodeInvertsEncode(t *testing.T) {
	for _, table := range append(manyTables(), ascending(20000), ascending(api.MaxSeries+1)) {
		b, e := Encode(table)
		if e != api.OK {
			t.Errorf("Encode of %s returns %v", shown(table), e)
		}
		expectDecode(t, b, table, api.OK)
	}
}

// The results of Table can be encoded, unless a string is too long.
func TestDecodeInvertsEncodeOfTable(t *testing.T) {
	source := rand.New(rand.NewSource(105))
	for i := range 1000 {
		table := Table(randomStrings(source, i%60)...)
		b, e := Encode(table)
		if e != api.OK {
			t.Errorf("Encode of %s returns %v", shown(table), e)
		}
		expectDecode(t, b, table, api.OK)
	}
}

// checkDecode compares Decode with the reference, and what it accepts with Encode.
func checkDecode(t *testing.T, b []byte) api.Errno {
	t.Helper()
	table, e := referenceDecode(b)
	expectDecode(t, b, table, e)
	if e == api.OK {
		expectEncode(t, table, b, api.OK)
	}
	return e
}

// All strings of at most two bytes, and all of at most seven bytes out of a few.
func TestDecodeOfAllShortBytes(t *testing.T) {
	count := map[api.Errno]int{}
	for i := range 1 << 8 {
		count[checkDecode(t, []byte{byte(i)})]++
	}
	for i := range 1 << 16 {
		count[checkDecode(t, []byte{byte(i >> 8), byte(i)})]++
	}
	var extend func(b []byte)
	extend = func(b []byte) {
		count[checkDecode(t, b)]++
		if len(b) < 7 {
			for _, c := range []byte{0, 1, 2, 3, 0x80} {
				extend(append(b[:len(b):len(b)], c))
			}
		}
	}
	extend(nil)
	for _, e := range []api.Errno{api.OK, api.ErrEOF, api.ErrMinimal, api.ErrOrder, api.ErrTrailing} {
		if count[e] < 200 {
			t.Errorf("only %d results are %v", count[e], e)
		}
	}
}

// Every change of one bit of a short encoding, and some of one or two bits of any encoding.
func TestDecodeOfChangedBits(t *testing.T) {
	source := rand.New(rand.NewSource(106))
	count := map[api.Errno]int{}
	for _, table := range manyTables() {
		b := encodingOf(table...)
		bits := source.Perm(8 * len(b))
		if len(b) > 200 {
			bits = bits[:20]
		}
		for _, bit := range bits {
			changed := bytes.Clone(b)
			changed[bit/8] ^= 1 << (bit % 8)
			count[checkDecode(t, changed)]++
			changed[source.Intn(len(b))] ^= 1 << source.Intn(8)
			count[checkDecode(t, changed)]++
		}
	}
	for _, e := range []api.Errno{api.OK, api.ErrEOF, api.ErrOrder, api.ErrTrailing} {
		if count[e] < 1000 {
			t.Errorf("only %d results are %v", count[e], e)
		}
	}
}

func TestDecodeOfAnyBytes(t *testing.T) {
	source := rand.New(rand.NewSource(107))
	for range 50000 {
		b := make([]byte, source.Intn(40))
		source.Read(b)
		for i := range b {
			b[i] >>= source.Intn(9)
		}
		checkDecode(t, b)
	}
}

// P1, P2

func TestCallsAreIndependent(t *testing.T) {
	var group sync.WaitGroup
	for _, table := range manyTables()[:200] {
		group.Go(func() {
			b, e := Encode(table)
			got, f := Decode(b)
			if e != api.OK || f != api.OK || !slices.Equal(got, table) || !slices.Equal(Table(table...), table) {
				t.Errorf("Decode returns %s and %v, want %s", shown(got), f, shown(table))
			}
			for i, s := range table {
				expectIndex(t, table, s, i)
			}
		})
	}
	group.Wait()
}
