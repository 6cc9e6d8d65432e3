package postings

import (
	"bytes"
	"encoding/binary"
	"fmt"
	"math"
	"math/bits"
	"math/rand"
	"slices"
	"strings"
	"sync"
	"testing"

	"tsblock/api"
	"tsblock/varint"
)

// greatest is the greatest number of a series, and of a bound of them.
const greatest = math.MaxInt

// spare is the number in the memory behind the numbers of an argument.
const spare = 77

// label returns a label, for short.
func label(name, value string) api.Label { return api.Label{Name: name, Value: value} }

// set returns the labels with the names and values in turn.
func set(parts ...string) []api.Label {
	var l []api.Label
	for i := 0; i < len(parts); i += 2 {
		l = append(l, label(parts[i], parts[i+1]))
	}
	return l
}

// sets returns a list of label sets, for short.
func sets(l ...[]api.Label) [][]api.Label { return l }

// entry returns an entry with a label and the numbers of its series.
func entry(name, value string, series ...int) Entry { return Entry{label(name, value), series} }

// index returns a list of entries, for short.
func index(l ...Entry) []Entry { return l }

// upFrom returns n numbers from the first one on, with the same step between them.
func upFrom(first, step, n int) []int {
	l := make([]int, n)
	for i := range l {
		l[i] = first + i*step
	}
	return l
}

// numbers returns the encodings of numbers, one after the other.
func numbers(l ...uint64) []byte {
	var b []byte
	for _, x := range l {
		b = binary.AppendUvarint(b, x)
	}
	return b
}

// ascending returns a table of n strings.
func ascending(n int) []string {
	var t []string
	for i := range n {
		t = append(t, string(binary.BigEndian.AppendUint32(nil, uint32(i))))
	}
	return t
}

// referenceOrder compares labels byte by byte.
func referenceOrder(x, y api.Label) int {
	for _, pair := range [][2]string{{x.Name, y.Name}, {x.Value, y.Value}} {
		a, b := pair[0], pair[1]
		for i := range min(len(a), len(b)) {
			if a[i] != b[i] {
				return int(a[i]) - int(b[i])
			}
		}
		if len(a) != len(b) {
			return len(a) - len(b)
		}
	}
	return 0
}

// labelsOf returns the different labels of all sets in ascending order.
func labelsOf(l [][]api.Label) []api.Label {
	var all []api.Label
	for _, x := range slices.Concat(l...) {
		if !slices.Contains(all, x) {
			all = append(all, x)
		}
	}
	slices.SortFunc(all, referenceOrder)
	return all
}

// having returns the numbers of the sets that contain a label.
func having(l [][]api.Label, x api.Label) []int {
	var numbers []int
	for i, s := range l {
		if slices.Contains(s, x) {
			numbers = append(numbers, i)
		}
	}
	return numbers
}

// referenceBuild looks for each label in each set.
func referenceBuild(l [][]api.Label) []Entry {
	var entries []Entry
	for _, x := range labelsOf(l) {
		entries = append(entries, Entry{x, having(l, x)})
	}
	return entries
}

// referenceUnion returns the numbers of the entries that are chosen, by looking at each entry.
func referenceUnion(l []Entry, isChosen func(x api.Label) bool) []int {
	var all []int
	for _, x := range l {
		if isChosen(x.Label) {
			all = append(all, x.Series...)
		}
	}
	slices.Sort(all)
	return slices.Compact(all)
}

func referenceFind(l []Entry, x api.Label) []int {
	return referenceUnion(l, func(y api.Label) bool { return y == x })
}

func referenceNamed(l []Entry, name string) []int {
	return referenceUnion(l, func(y api.Label) bool { return y.Name == name })
}

// referenceSymbol returns the position of a string in a table, and whether it is there.
func referenceSymbol(t []string, s string) (uint64, bool) {
	for i, other := range t {
		if other == s {
			return uint64(i), true
		}
	}
	return 0, false
}

// encodingOf returns entries as they are encoded, also where they are not an index.
func encodingOf(t []string, l ...Entry) []byte {
	b := numbers(uint64(len(l)))
	for _, x := range l {
		name, _ := referenceSymbol(t, x.Label.Name)
		value, _ := referenceSymbol(t, x.Label.Value)
		b = append(b, numbers(name, value, uint64(len(x.Series)))...)
		for i, number := range x.Series {
			if i > 0 {
				number -= x.Series[i-1]
			}
			b = append(b, numbers(uint64(number))...)
		}
	}
	return b
}

// referenceReader reads numbers from the rest of some bytes, and keeps the first error.
type referenceReader struct {
	rest []byte
	err  api.Errno
}

// number reads a number that is not wrong, or keeps an error.
func (r *referenceReader) number(isWrong func(x uint64) bool, ifWrong api.Errno) uint64 {
	if r.err != api.OK {
		return 0
	}
	x, n, e := varint.Get(r.rest, 0)
	if e != api.OK {
		r.err = e
		return 0
	}
	r.rest = r.rest[n:]
	if isWrong(x) {
		r.err = ifWrong
		return 0
	}
	return x
}

func (r *referenceReader) count() uint64 {
	return r.number(func(x uint64) bool { return x > uint64(len(r.rest)) }, api.ErrEOF)
}

func (r *referenceReader) symbol(t []string) string {
	i := r.number(func(x uint64) bool { return x >= uint64(len(t)) }, api.ErrSymbol)
	if r.err != api.OK {
		return ""
	}
	return t[i]
}

func (r *referenceReader) series(n int) []int {
	count := r.count()
	if r.err == api.OK && count == 0 {
		r.err = api.ErrPostings
	}
	var l []int
	var sum, carry uint64
	for i := uint64(0); i < count && r.err == api.OK; i++ {
		r.number(func(x uint64) bool {
			sum, carry = bits.Add64(sum, x, 0)
			return i > 0 && x == 0 || carry > 0 || sum >= uint64(n)
		}, api.ErrPostings)
		l = append(l, int(sum))
	}
	return l
}

func referenceDecode(t []string, n int, b []byte) ([]Entry, api.Errno) {
	if n < 0 {
		return nil, api.ErrArg
	}
	r := &referenceReader{rest: b}
	var l []Entry
	count := r.count()
	for i := uint64(0); i < count && r.err == api.OK; i++ {
		name := r.symbol(t)
		x := label(name, r.symbol(t))
		if r.err == api.OK && i > 0 && referenceOrder(l[i-1].Label, x) >= 0 {
			r.err = api.ErrOrder
		}
		l = append(l, Entry{x, r.series(n)})
	}
	if r.err == api.OK && len(r.rest) > 0 {
		r.err = api.ErrTrailing
	}
	if r.err != api.OK {
		return nil, r.err
	}
	return l, api.OK
}

// cloneOf returns a copy that shares no slice, with numbers in the memory behind its lists.
func cloneOf(l []Entry) []Entry {
	c := slices.Clone(l)
	for i, x := range c {
		c[i].Series = append(slices.Clone(x.Series), spare, spare)[:len(x.Series)]
	}
	return c
}

// cloneOfSets returns a copy that shares no slice, with labels in the memory behind its sets.
func cloneOfSets(l [][]api.Label) [][]api.Label {
	c := slices.Clone(l)
	for i, x := range c {
		c[i] = append(slices.Clone(x), label("spare", "spare"))[:len(x)]
	}
	return c
}

func isEqual(a, b []Entry) bool {
	return slices.EqualFunc(a, b, func(x, y Entry) bool {
		return x.Label == y.Label && slices.Equal(x.Series, y.Series)
	})
}

func isEqualSets(a, b [][]api.Label) bool { return slices.EqualFunc(a, b, slices.Equal) }

// isGuarded reports whether the memory behind the lists of a clone is unchanged.
func isGuarded(c []Entry) bool {
	for _, x := range c {
		n := len(x.Series)
		if !slices.Equal(x.Series[n:n+2], []int{spare, spare}) {
			return false
		}
	}
	return true
}

// overwrite changes all numbers of a list, and those in the memory behind it.
func overwrite(l []int) {
	l = l[:cap(l)]
	for i := range l {
		l[i] = -999
	}
}

// shown returns a value for a message.
func shown(x any) string {
	text := fmt.Sprintf("%q", x)
	switch l := x.(type) {
	case []byte:
		text = fmt.Sprintf("%x", l)
	case []int:
		text = fmt.Sprintf("%d (%d numbers)", l[:min(len(l), 20)], len(l))
	case []Entry:
		text = fmt.Sprintf("%+v (%d entries)", l[:min(len(l), 5)], len(l))
	}
	if len(text) > 300 {
		return text[:300] + " ..."
	}
	return text
}

// expectBuild checks all that Build does.
func expectBuild(t *testing.T, l [][]api.Label, want []Entry) {
	t.Helper()
	c := cloneOfSets(l)
	if got := Build(c); !isEqual(got, want) {
		t.Errorf("Build of %s returns %s, want %s", shown(l), shown(got), shown(want))
	}
	if !isEqualSets(c, l) {
		t.Errorf("Build has changed %s to %s", shown(l), shown(c))
	}
}

// expectNumbers checks the result of a function of an index, that it is newly allocated, and that the index is not changed.
func expectNumbers(t *testing.T, name string, of func(l []Entry) []int, l []Entry, want []int) {
	t.Helper()
	c := cloneOf(l)
	first, second := of(c), of(c)
	if !slices.Equal(first, want) || !slices.Equal(second, want) {
		t.Errorf("%s in %s returns %s and then %s, want %s", name, shown(l), shown(first), shown(second), shown(want))
	}
	overwrite(first)
	if !isEqual(c, l) || !isGuarded(c) {
		t.Errorf("%s has changed %s to %s, or shares memory with it", name, shown(l), shown(c))
	}
	if third := of(c); !slices.Equal(second, want) || !slices.Equal(third, want) {
		t.Errorf("%s returns %s and then %s after a change of what it returned before, want %s", name, shown(second), shown(third), shown(want))
	}
	for _, x := range c {
		overwrite(x.Series)
	}
	if !slices.Equal(second, want) {
		t.Errorf("what %s has returned changes with the index", name)
	}
}

// expectFind checks all that Find does.
func expectFind(t *testing.T, l []Entry, x api.Label, want ...int) {
	t.Helper()
	expectNumbers(t, fmt.Sprintf("Find of %q", x), func(l []Entry) []int { return Find(l, x) }, l, want)
}

// expectNamed checks all that Named does.
func expectNamed(t *testing.T, l []Entry, name string, want ...int) {
	t.Helper()
	expectNumbers(t, fmt.Sprintf("Named of %q", name), func(l []Entry) []int { return Named(l, name) }, l, want)
}

// expectEncode checks all that Encode does.
func expectEncode(t *testing.T, table []string, l []Entry, want []byte, wantError api.Errno) {
	t.Helper()
	keptTable, c := slices.Clone(table), cloneOf(l)
	b, e := Encode(table, c)
	if e != wantError || !bytes.Equal(b, want) {
		t.Errorf("Encode of %s with %s returns %s and %v, want %s and %v", shown(l), shown(table), shown(b), e, shown(want), wantError)
	}
	if !slices.Equal(table, keptTable) || !isEqual(c, l) || !isGuarded(c) {
		t.Errorf("Encode has changed %s or %s to %s or %s", shown(keptTable), shown(l), shown(table), shown(c))
	}
}

// expectDecode checks all that Decode does.
func expectDecode(t *testing.T, table []string, n int, b []byte, want []Entry, wantError api.Errno) {
	t.Helper()
	keptTable, kept := slices.Clone(table), bytes.Clone(b)
	l, e := Decode(table, n, b)
	if e != wantError || !isEqual(l, want) {
		t.Errorf("Decode of %s with %s and %d returns %s and %v, want %s and %v", shown(b), shown(table), n, shown(l), e, shown(want), wantError)
	}
	if !slices.Equal(table, keptTable) || !bytes.Equal(b, kept) {
		t.Errorf("Decode has changed %s or %s to %s or %s", shown(keptTable), shown(kept), shown(table), shown(b))
	}
}

// expectError checks that Decode returns an error alone.
func expectError(t *testing.T, table []string, n int, want api.Errno, b ...byte) {
	t.Helper()
	expectDecode(t, table, n, b, nil, want)
}

// encodings are indexes with a table that has their strings, and with a bound of their numbers, and their encodings, written out by hand.
var encodings = []struct {
	t []string
	n int
	l []Entry
	b string
}{
	{nil, 0, nil, "\x00"},
	{nil, 5, nil, "\x00"},
	{[]string{"a", "x"}, 0, nil, "\x00"},
	{[]string{"1", "2", "a", "b"}, 2, index(entry("a", "1", 0, 1), entry("b", "2", 1)), "\x02\x02\x00\x02\x00\x01\x03\x01\x01\x01"},
	{[]string{"a", "x"}, 1, index(entry("a", "x", 0)), "\x01\x00\x01\x01\x00"},
	{[]string{"a", "x"}, 2, index(entry("x", "a", 1)), "\x01\x01\x00\x01\x01"},
	{[]string{"a"}, 2, index(entry("a", "a", 0, 1)), "\x01\x00\x00\x02\x00\x01"},
	{[]string{"", "a"}, 10, index(entry("a", "", 9)), "\x01\x01\x00\x01\x09"},
	// The empty label, alone and before others.
	{[]string{""}, 3, index(entry("", "", 2)), "\x01\x00\x00\x01\x02"},
	{[]string{"", "a"}, 3, index(entry("", "", 0), entry("", "a", 0), entry("a", "", 0), entry("a", "a", 0)), "\x04\x00\x00\x01\x00\x00\x01\x01\x00\x01\x00\x01\x00\x01\x01\x01\x00"},
	// Differences, also where the first number is 0.
	{[]string{"a", "x"}, 16, index(entry("a", "x", 3, 4, 6, 9, 15)), "\x01\x00\x01\x05\x03\x01\x02\x03\x06"},
	{[]string{"a", "x"}, 16, index(entry("a", "x", 0, 5, 15)), "\x01\x00\x01\x03\x00\x05\x0a"},
	// Each entry begins with a number itself, also after a greater one.
	{[]string{"a", "x", "y"}, 9, index(entry("a", "x", 5, 8), entry("a", "y", 6, 7), entry("x", "a", 0), entry("y", "x", 8)), "\x04\x00\x01\x02\x05\x03\x00\x02\x02\x06\x01\x01\x00\x01\x00\x02\x01\x01\x08"},
	// Strings of the table that are not used.
	{[]string{"a", "b", "x", "y"}, 3, index(entry("b", "y", 2)), "\x01\x01\x03\x01\x02"},
	// Numbers and differences at the bounds of the lengths of their encodings.
	{[]string{"a", "b"}, 200, index(entry("a", "b", 127, 128), entry("b", "a", 128, 199)), "\x02\x00\x01\x02\x7f\x01\x01\x00\x02\x80\x01\x47"},
	{[]string{"a", "b"}, 20000, index(entry("a", "b", 0, 127, 255, 16638), entry("b", "a", 1, 16385)), "\x02\x00\x01\x04\x00\x7f\x80\x01\xff\x7f\x01\x00\x02\x01\x80\x80\x01"},
	{[]string{"a", "b"}, 1 << 20, index(entry("a", "b", 300, 600, 1<<20-1)), "\x01\x00\x01\x03\xac\x02\xac\x02\xa7\xfb\x3f"},
	{[]string{"a", "b"}, greatest, index(entry("a", "b", greatest-1)), "\x01\x00\x01\x01\xfe\xff\xff\xff\xff\xff\xff\xff\x7f"},
	{[]string{"a", "b"}, greatest, index(entry("a", "b", 0, 1, greatest-1)), "\x01\x00\x01\x03\x00\x01\xfd\xff\xff\xff\xff\xff\xff\xff\x7f"},
}

// boundedIndex is an index with a table that has its strings, and with a bound that is greater than its numbers.
type boundedIndex struct {
	t []string
	n int
	l []Entry
}

// someNumbers returns from 1 to 12 numbers below n in ascending order.
func someNumbers(source *rand.Rand, n int) []int {
	var l []int
	for range 1 + source.Intn(12) {
		l = append(l, source.Intn(n))
	}
	slices.Sort(l)
	return slices.Compact(l)
}

// randomIndex returns an index with strings of a table, which must not be empty, and numbers below n.
func randomIndex(source *rand.Rand, t []string, n, size int) []Entry {
	var l []Entry
	for range size {
		l = append(l, Entry{label(t[source.Intn(len(t))], t[source.Intn(len(t))]), someNumbers(source, n)})
	}
	slices.SortFunc(l, func(x, y Entry) int { return referenceOrder(x.Label, y.Label) })
	return slices.CompactFunc(l, func(x, y Entry) bool { return x.Label == y.Label })
}

// manyIndexes returns those written out by hand, some with numbers at the bounds of their encodings, and random ones.
func manyIndexes() []boundedIndex {
	var all []boundedIndex
	for _, c := range encodings {
		all = append(all, boundedIndex{c.t, c.n, c.l})
	}
	table := ascending(16386)
	for _, n := range []int{1, 2, 126, 127, 128, 129, 300} {
		var names, values []Entry
		for i := range n {
			names = append(names, entry(table[i], table[n-1-i], i, 2*n))
			values = append(values, entry(table[0], table[i], n-i))
		}
		all = append(all, boundedIndex{table[:n], 2*n + 1, names}, boundedIndex{table[:n], n + 1, values})
		all = append(all, boundedIndex{table[:1], n, index(entry(table[0], table[0], upFrom(0, 1, n)...))})
	}
	for _, i := range []int{126, 127, 128, 16383, 16384, 16385} {
		all = append(all, boundedIndex{table[:i+1], 2*i + 1, index(entry(table[0], table[i], i), entry(table[i], table[0], 0, i, 2*i), entry(table[i], table[i], 2*i))})
	}
	source := rand.New(rand.NewSource(15))
	for i := range 300 {
		t, n := table[:1+source.Intn(300)], 1+source.Intn(1<<(1+source.Intn(30)))
		all = append(all, boundedIndex{t, n, randomIndex(source, t, n, i%20)})
	}
	return all
}

// P15.1

func TestBuildOfExample(t *testing.T) {
	l := [][]api.Label{{{Name: "a", Value: "1"}}, {{Name: "a", Value: "1"}, {Name: "b", Value: "2"}}}
	expectBuild(t, l, []Entry{{api.Label{Name: "a", Value: "1"}, []int{0, 1}}, {api.Label{Name: "b", Value: "2"}, []int{1}}})
}

func TestBuild(t *testing.T) {
	ab := set("a", "1", "b", "2")
	for _, c := range []struct {
		l    [][]api.Label
		want []Entry
	}{
		// No labels.
		{nil, nil},
		{sets(), nil},
		{sets(nil), nil},
		{sets(nil, set(), nil), nil},
		// One set, and the same set several times.
		{sets(set("a", "1")), index(entry("a", "1", 0))},
		{sets(ab), index(entry("a", "1", 0), entry("b", "2", 0))},
		{sets(ab, ab), index(entry("a", "1", 0, 1), entry("b", "2", 0, 1))},
		{sets(ab, ab, ab, ab), index(entry("a", "1", 0, 1, 2, 3), entry("b", "2", 0, 1, 2, 3))},
		// Empty sets have numbers too.
		{sets(nil, ab), index(entry("a", "1", 1), entry("b", "2", 1))},
		{sets(ab, nil, nil, ab, nil), index(entry("a", "1", 0, 3), entry("b", "2", 0, 3))},
		{sets(nil, set("b", "2"), nil, set("a", "1"), nil), index(entry("a", "1", 3), entry("b", "2", 1))},
		// One name with different values, one value with different names.
		{sets(set("a", "3"), set("a", "1"), set("a", "2"), set("a", "1")), index(entry("a", "1", 1, 3), entry("a", "2", 2), entry("a", "3", 0))},
		{sets(set("c", "x"), set("a", "x", "b", "x"), set("b", "x", "c", "x")), index(entry("a", "x", 1), entry("b", "x", 1, 2), entry("c", "x", 0, 2))},
		{sets(set("a", "2", "b", "1"), set("a", "1", "b", "2")), index(entry("a", "1", 1), entry("a", "2", 0), entry("b", "1", 0), entry("b", "2", 1))},
		// Names precede values.
		{sets(set("b", "1"), set("a", "2")), index(entry("a", "2", 1), entry("b", "1", 0))},
		// Labels that all sets have, and some that only one has.
		{sets(set("a", "1", "b", "1", "z", "z"), set("a", "1", "c", "1", "z", "z"), set("a", "1", "d", "1", "z", "z")), index(entry("a", "1", 0, 1, 2), entry("b", "1", 0), entry("c", "1", 1), entry("d", "1", 2), entry("z", "z", 0, 1, 2))},
		// A name or value is the beginning of another, or name and value are the same together.
		{sets(set("aaa", "x"), set("aa", "x"), set("a", "x")), index(entry("a", "x", 2), entry("aa", "x", 1), entry("aaa", "x", 0))},
		{sets(set("a", "xyz"), set("a", "xy"), set("a", ""), set("a", "x")), index(entry("a", "", 2), entry("a", "x", 3), entry("a", "xy", 1), entry("a", "xyz", 0))},
		{sets(set("ab", "c"), set("a", "bc"), set("abc", "")), index(entry("a", "bc", 1), entry("ab", "c", 0), entry("abc", "", 2))},
		{sets(set("a", "b", "b", "a"), set("a", "a", "b", "b")), index(entry("a", "a", 1), entry("a", "b", 0), entry("b", "a", 0), entry("b", "b", 1))},
		// Strings are compared byte by byte, not by letters.
		{sets(set("a\x00", "1"), set("a", "1"), set("A", "1"), set("\xff", "1"), set("\x00", "1"), set("é", "1"), set("z", "1")), index(entry("\x00", "1", 4), entry("A", "1", 2), entry("a", "1", 1), entry("a\x00", "1", 0), entry("z", "1", 6), entry("é", "1", 5), entry("\xff", "1", 3))},
		{sets(set("a", "10"), set("a", "9"), set("a", "\x00"), set("a", "\xff\xff"), set("a", "\xff")), index(entry("a", "\x00", 2), entry("a", "10", 0), entry("a", "9", 1), entry("a", "\xff", 4), entry("a", "\xff\xff", 3))},
	} {
		expectBuild(t, c.l, c.want)
	}
}

// All names and all values of one byte, each in two sets.
func TestBuildOfAllBytes(t *testing.T) {
	var l [][]api.Label
	var names, values []Entry
	for i := range 256 {
		up, down := string([]byte{byte(i)}), string([]byte{byte(255 - i)})
		l = append(l, set(down, "v"+up))
		names = append(names, entry(up, "v"+down, 255-i, 511-i))
	}
	expectBuild(t, append(l, l...), names)
	l = nil
	for i := range 256 {
		up, down := string([]byte{byte(i)}), string([]byte{byte(255 - i)})
		l = append(l, set("n", down))
		values = append(values, entry("n", up, 255-i, 511-i))
	}
	expectBuild(t, append(l, l...), values)
}

func TestBuildOfLongStrings(t *testing.T) {
	long := strings.Repeat("a", api.MaxString)
	almost := long[:api.MaxString-1]
	expectBuild(t, sets(set(long, long), set(almost+"b", long), set(long, almost+"b"), set(almost, long), set(long, almost), set(long, long)), index(
		entry(almost, long, 3), entry(long, almost, 4), entry(long, long, 0, 5), entry(long, almost+"b", 2), entry(almost+"b", long, 1),
	))
}

// All lists of at most four sets out of those with some names and values.
func TestBuildOfAllShortLists(t *testing.T) {
	var some [][]api.Label
	for _, a := range []string{"", "1", "2"} {
		for _, aa := range []string{"", "1", "2"} {
			var s []api.Label
			if a != "" {
				s = append(s, label("a", a))
			}
			if aa != "" {
				s = append(s, label("aa", aa))
			}
			some = append(some, s)
		}
	}
	some = append(some, set("a", "", "b", "1"))
	var extend func(l [][]api.Label)
	extend = func(l [][]api.Label) {
		expectBuild(t, l, referenceBuild(l))
		if len(l) < 4 {
			for _, x := range some {
				extend(append(l[:len(l):len(l)], x))
			}
		}
	}
	extend(nil)
}

// randomSets returns label sets with few names and values, which begin in the same way.
func randomSets(source *rand.Rand, count int) [][]api.Label {
	l := make([][]api.Label, count)
	for i := range l {
		for _, name := range []string{"\x00", "a", "aa", "ab", "b", "\xff"} {
			if source.Intn(2) == 0 {
				l[i] = append(l[i], label(name, []string{"", "a", "aa", "b", "\xfe"}[source.Intn(5)]))
			}
		}
	}
	return l
}

func TestBuildOfAnySets(t *testing.T) {
	source := rand.New(rand.NewSource(151))
	for i := range 1000 {
		l := randomSets(source, i%50)
		expectBuild(t, l, referenceBuild(l))
	}
}

// Many sets have some labels in common, and others alone.
func TestBuildOfManySets(t *testing.T) {
	table := ascending(50000)
	var l [][]api.Label
	own := make([]Entry, len(table))
	common := index(entry("kind", "even"), entry("kind", "odd"))
	for i := range table {
		number := len(table) - 1 - i
		l = append(l, set("all", "", "kind", common[i%2].Label.Value, "own", table[number]))
		own[number] = entry("own", table[number], i)
		common[i%2].Series = append(common[i%2].Series, i)
	}
	want := slices.Concat(index(entry("all", "", upFrom(0, 1, len(l))...)), common, own)
	expectBuild(t, l, want)
}

// Elements behind the end of a slice do not belong to it.
func TestBuildStaysWithinTheSlices(t *testing.T) {
	l := sets(set("a", "1", "b", "2", "c", "3"), set("a", "1"), set("d", "4"))
	l[0] = l[0][:2]
	expectBuild(t, l[:2], index(entry("a", "1", 0, 1), entry("b", "2", 0)))
	if got := Build(l[:1]); !isEqual(got, index(entry("a", "1", 0), entry("b", "2", 0))) {
		t.Errorf("Build of the first set returns %s", shown(got))
	}
	if got := Build(l[:0]); len(got) != 0 {
		t.Errorf("Build of no sets returns %s", shown(got))
	}
}

// Nothing is kept of the arguments, no two lists of a result share memory, nor do the results of two calls.
func TestBuildSharesNoMemory(t *testing.T) {
	source := rand.New(rand.NewSource(152))
	for range 100 {
		l := randomSets(source, 40)
		want := referenceBuild(l)
		one, two := Build(l), Build(l)
		for _, x := range l {
			clear(x)
		}
		clear(l)
		if !isEqual(one, want) {
			t.Errorf("%s changes with the sets, want %s", shown(one), shown(want))
		}
		for i, x := range one {
			overwrite(x.Series)
			if !isEqual(one[i+1:], want[i+1:]) {
				t.Fatalf("the lists of %s share memory", shown(want))
			}
		}
		clear(one[:cap(one)])
		if !isEqual(two, want) {
			t.Errorf("%s shares memory with the result of another call, want %s", shown(two), shown(want))
		}
	}
}

// The same sets give the same index each time.
func TestBuildIsDetermined(t *testing.T) {
	l := randomSets(rand.New(rand.NewSource(153)), 100)
	want := referenceBuild(l)
	for range 200 {
		if got := Build(l); !isEqual(got, want) {
			t.Fatalf("Build returns %s, want %s", shown(got), shown(want))
		}
	}
}

// P15.2

func TestFindInEmptyIndex(t *testing.T) {
	for _, l := range [][]Entry{nil, {}, index(entry("a", "1", 5))[:0]} {
		for _, x := range set("", "", "a", "", "", "1", "a", "1", "\xff", "\xff") {
			expectFind(t, l, x)
			expectNamed(t, l, x.Name)
		}
	}
}

func TestFind(t *testing.T) {
	l := index(entry("b", "2", 0, 1), entry("b", "4", 2), entry("bb", "2", 1, 3, 5), entry("d", "", 7), entry("d", "2", 0), entry("d", "22", 4, greatest))
	for _, x := range l {
		expectFind(t, l, x.Label, x.Series...)
	}
	// Labels before, between and after those of the index.
	for _, x := range set("a", "2", "a", "9", "b", "1", "b", "", "b", "20", "b", "3", "b", "5", "b", "9", "ba", "2", "bb", "1", "bb", "3", "bbb", "2", "c", "2", "c", "", "d", "1", "d", "\x00", "d", "21", "d", "220", "d", "3", "d\x00", "", "e", "2", "\xff", "\xff") {
		expectFind(t, l, x)
	}
	// Labels with a name and a value that only others have.
	for _, x := range set("b", "22", "bb", "4", "bb", "", "d", "4", "bb", "22") {
		expectFind(t, l, x)
	}
	// Other labels that are the same together, exchanged, empty, or in other letters.
	for _, x := range set("", "", "", "b2", "b2", "", "", "2", "2", "b", "d2", "", "B", "2", "D", "", "d22", "", "d2", "2", "db", "2") {
		expectFind(t, l, x)
	}
}

func TestNamed(t *testing.T) {
	l := index(
		entry("b", "1", 0, 3, 6), entry("b", "2", 1, 4), entry("b", "3", 2, 5, 7), // nothing in common
		entry("bb", "9", 4, 8),                                                   // one entry
		entry("c", "", 1, 2, 3), entry("c", "x", 2, 3, 4), entry("c", "y", 0, 3), // numbers in common
		entry("e", "1", 3, 9), entry("e", "2", 3, 9), // the same list twice
	)
	expectNamed(t, l, "b", 0, 1, 2, 3, 4, 5, 6, 7)
	expectNamed(t, l, "bb", 4, 8)
	expectNamed(t, l, "c", 0, 1, 2, 3, 4)
	expectNamed(t, l, "e", 3, 9)
	for _, name := range []string{"", "a", "B", "b\x00", "ba", "bbb", "1", "9", "x", "d", "ce", "f", "b1", "bb9", "\xff", strings.Repeat("b", api.MaxString)} {
		expectNamed(t, l, name)
	}
	for n := range l {
		// The first and the last name have fewer entries.
		expectNamed(t, l[:n], "e", referenceNamed(l[:n], "e")...)
		expectNamed(t, l[:n], "b", referenceNamed(l[:n], "b")...)
		expectNamed(t, l[n:], "e", referenceNamed(l[n:], "e")...)
		expectNamed(t, l[n:], "b", referenceNamed(l[n:], "b")...)
	}
}

func TestFindAndNamedOfEmptyStrings(t *testing.T) {
	l := index(entry("", "", 4), entry("", "1", 0, 4), entry("a", "", 2), entry("a", "1", 3))
	expectFind(t, l, label("", ""), 4)
	expectFind(t, l, label("", "1"), 0, 4)
	expectFind(t, l, label("a", ""), 2)
	expectFind(t, l, label("", "0"))
	expectNamed(t, l, "", 0, 4)
	expectNamed(t, l, "a", 2, 3)
	expectFind(t, l[1:], label("", ""))
	expectNamed(t, l[2:], "")
}

// checkFinding compares Find and Named with the references.
func checkFinding(t *testing.T, l []Entry, names, values []string) {
	t.Helper()
	for _, name := range names {
		for _, value := range values {
			x := label(name, value)
			expectFind(t, l, x, referenceFind(l, x)...)
		}
		expectNamed(t, l, name, referenceNamed(l, name)...)
	}
}

// All choices of some entries, and all labels before, between, equal to and after theirs.
func TestFindAndNamedOfAllShortIndexes(t *testing.T) {
	whole := index(entry("b", "2", 1, 3), entry("b", "4", 0, 3), entry("b", "6", 2), entry("d", "2", 4), entry("d", "4", 1, 4), entry("f", "4", 0, 5))
	for choice := range 1 << len(whole) {
		var l []Entry
		for i, x := range whole {
			if choice>>i&1 == 1 {
				l = append(l, x)
			}
		}
		checkFinding(t, l, []string{"", "a", "b", "c", "d", "e", "f", "g"}, []string{"", "1", "2", "3", "4", "5", "6", "7"})
	}
}

func TestFindAndNamedInAnyIndex(t *testing.T) {
	source := rand.New(rand.NewSource(154))
	table := ascending(20)
	for i := range 300 {
		l := randomIndex(source, table[2:18], 1+source.Intn(60), i%60)
		checkFinding(t, l, table, table)
	}
}

// Each of many entries is found, also with names and values of all bytes.
func TestFindInLongIndex(t *testing.T) {
	var l []Entry
	for i := range 256 {
		for j := range 256 {
			l = append(l, entry(string([]byte{byte(i)}), string([]byte{byte(j)}), j, 256+i))
		}
	}
	for _, x := range l {
		if got := Find(l, x.Label); !slices.Equal(got, x.Series) {
			t.Fatalf("Find of %q returns %d, want %d", x.Label, got, x.Series)
		}
	}
	for i := range 256 {
		name := string([]byte{byte(i)})
		if got := Named(l, name); !slices.Equal(got, append(upFrom(0, 1, 256), 256+i)) {
			t.Fatalf("Named of %q returns %s", name, shown(got))
		}
		for _, x := range set(name, "", name, name+name, name+"\x00", "\x00", "", name) {
			if got := Find(l, x); len(got) > 0 {
				t.Fatalf("Find of %q returns %d", x, got)
			}
		}
	}
}

// Elements behind the end of a slice do not belong to it.
func TestFindAndNamedStayWithinTheSlices(t *testing.T) {
	l := index(entry("a", "1", 0, 1), entry("a", "2", 2, 3), entry("b", "1", 4))
	l[0].Series = l[0].Series[:1]
	one, none := l[:1], l[:0]
	if got := Find(one, label("a", "1")); !slices.Equal(got, []int{0}) {
		t.Errorf("Find in the first entry returns %d", got)
	}
	if got := Named(one, "a"); !slices.Equal(got, []int{0}) {
		t.Errorf("Named in the first entry returns %d", got)
	}
	if got := Named(l[:2], "a"); !slices.Equal(got, []int{0, 2, 3}) {
		t.Errorf("Named in two entries returns %d", got)
	}
	for _, x := range l[1:] {
		if len(Find(one, x.Label)) > 0 || len(Find(none, x.Label)) > 0 || len(Named(none, x.Label.Name)) > 0 {
			t.Errorf("%q is found behind the end", x.Label)
		}
	}
}

// P15.3

func TestEncode(t *testing.T) {
	for _, c := range encodings {
		expectEncode(t, c.t, c.l, []byte(c.b), api.OK)
	}
}

func TestEncodeOfExample(t *testing.T) {
	l := Build([][]api.Label{{{Name: "a", Value: "1"}}, {{Name: "a", Value: "1"}, {Name: "b", Value: "2"}}})
	expectEncode(t, []string{"1", "2", "a", "b"}, l, []byte{2, 2, 0, 2, 0, 1, 3, 1, 1, 1}, api.OK)
}

func TestEncodeOfEmptyIndex(t *testing.T) {
	for _, table := range [][]string{nil, {}, {""}, {"a", "x"}} {
		expectEncode(t, table, nil, []byte{0}, api.OK)
		expectEncode(t, table, []Entry{}, []byte{0}, api.OK)
	}
}

// The numbers at which the encoding of a number has one more byte, in each place.
func TestEncodeOfNumbers(t *testing.T) {
	table := ascending(20000)
	for n, head := range map[int]string{1: "\x01", 127: "\x7f", 128: "\x80\x01", 300: "\xac\x02", 16383: "\xff\x7f", 16384: "\x80\x80\x01"} {
		var many []Entry
		want := head
		for i := range n {
			many = append(many, entry(table[i], table[2], 5))
			want += string(numbers(uint64(i), 2, 1, 5))
		}
		expectEncode(t, table, many, []byte(want), api.OK)
		expectEncode(t, table, index(entry(table[n], table[2], 5)), []byte("\x01"+head+"\x02\x01\x05"), api.OK)
		expectEncode(t, table, index(entry(table[2], table[n], 5)), []byte("\x01\x02"+head+"\x01\x05"), api.OK)
		expectEncode(t, table, index(entry(table[2], table[3], upFrom(0, 1, n)...)), []byte("\x01\x02\x03"+head+"\x00"+strings.Repeat("\x01", n-1)), api.OK)
		expectEncode(t, table, index(entry(table[2], table[3], n)), []byte("\x01\x02\x03\x01"+head), api.OK)
		expectEncode(t, table, index(entry(table[2], table[3], 5, n+5, 2*n+5)), []byte("\x01\x02\x03\x03\x05"+head+head), api.OK)
		expectEncode(t, table, index(entry(table[2], table[3], n, 2*n), entry(table[3], table[2], n, n+1)), []byte("\x02\x02\x03\x02"+head+head+"\x03\x02\x02"+head+"\x01"), api.OK)
	}
}

func TestEncodeEqualsReference(t *testing.T) {
	for _, c := range manyIndexes() {
		expectEncode(t, c.t, c.l, encodingOf(c.t, c.l...), api.OK)
	}
}

// Names and values that are not in the table, in the first, a middle and the last entry.
func TestEncodeOfMissingStrings(t *testing.T) {
	table := []string{"a", "c", "x", "z"}
	right := index(entry("a", "x", 0, 3), entry("c", "a", 200), entry("c", "z", 1), entry("x", "x", 2))
	expectEncode(t, table, right, []byte("\x04\x00\x02\x02\x00\x03\x01\x00\x01\xc8\x01\x01\x03\x01\x01\x02\x02\x01\x02"), api.OK)
	for _, s := range []string{"", "0", "A", "aa", "b", "a\x00", "d", "y", "zz", "\xff", strings.Repeat("a", api.MaxString+1)} {
		for _, x := range []Entry{entry(s, "x", 7), entry("a", s, 7), entry("c", s, 7), entry("z", s, 7), entry(s, s, 7)} {
			expectEncode(t, table, index(x), nil, api.ErrSymbol)
			l := append(cloneOf(right), x)
			slices.SortFunc(l, func(x, y Entry) int { return referenceOrder(x.Label, y.Label) })
			expectEncode(t, table, l, nil, api.ErrSymbol)
			i := slices.IndexFunc(l, func(y Entry) bool { return y.Label == x.Label })
			expectEncode(t, table, l[i:], nil, api.ErrSymbol)
			expectEncode(t, table, l[:i+1], nil, api.ErrSymbol)
			expectEncode(t, table, l[:i], encodingOf(table, l[:i]...), api.OK)
			expectEncode(t, table, l[i+1:], encodingOf(table, l[i+1:]...), api.OK)
		}
	}
}

func TestEncodeWithEmptyTable(t *testing.T) {
	for _, table := range [][]string{nil, {}, []string{"a", "x"}[:0]} {
		expectEncode(t, table, nil, []byte{0}, api.OK)
		for _, x := range set("a", "x", "a", "", "", "x", "", "") {
			expectEncode(t, table, []Entry{{x, []int{1}}}, nil, api.ErrSymbol)
		}
	}
}

// Elements behind the end of a slice do not belong to it.
func TestEncodeStaysWithinTheSlices(t *testing.T) {
	table := []string{"a", "x", "y"}
	l := index(entry("a", "x", 1, 3, 6), entry("a", "y", 2), entry("b", "x", 0))
	expectEncode(t, table, l, nil, api.ErrSymbol)
	l[0].Series = l[0].Series[:2]
	for _, c := range []struct {
		t []string
		l []Entry
		b string
		e api.Errno
	}{
		{table, l[:2], "\x02\x00\x01\x02\x01\x02\x00\x02\x01\x02", api.OK},
		{table[:2], l[:1], "\x01\x00\x01\x02\x01\x02", api.OK},
		{table[:2], l[:2], "", api.ErrSymbol},
		{table[:1], l[:1], "", api.ErrSymbol},
		{table[:0], l[:0], "\x00", api.OK},
	} {
		if b, e := Encode(c.t, c.l); string(b) != c.b || e != c.e {
			t.Errorf("Encode of %s with %s returns %x and %v, want %x and %v", shown(c.l), shown(c.t), b, e, c.b, c.e)
		}
	}
}

func TestEncodeSharesNoMemory(t *testing.T) {
	for _, c := range encodings {
		l, table := cloneOf(c.l), slices.Clone(c.t)
		one, _ := Encode(table, l)
		two, _ := Encode(table, l)
		clear(append(one, "xyz"...))
		clear(one)
		for _, x := range l {
			clear(x.Series)
		}
		clear(l)
		clear(table)
		if string(two) != c.b {
			t.Errorf("the encoding of %s has become %x", shown(c.l), two)
		}
	}
}

// P15.4

func TestDecode(t *testing.T) {
	for _, c := range encodings {
		expectDecode(t, c.t, c.n, []byte(c.b), c.l, api.OK)
		expectDecode(t, c.t, greatest, []byte(c.b), c.l, api.OK)
	}
}

func TestDecodeOfExample(t *testing.T) {
	l := []Entry{{api.Label{Name: "a", Value: "1"}, []int{0, 1}}, {api.Label{Name: "b", Value: "2"}, []int{1}}}
	expectDecode(t, []string{"1", "2", "a", "b"}, 2, []byte{2, 2, 0, 2, 0, 1, 3, 1, 1, 1}, l, api.OK)
}

func TestDecodeOfNothing(t *testing.T) {
	for _, table := range [][]string{nil, {}, {""}, {"a", "x"}} {
		for _, n := range []int{0, 1, 2, greatest} {
			expectError(t, table, n, api.ErrEOF)
			expectDecode(t, table, n, []byte{}, nil, api.ErrEOF)
			expectDecode(t, table, n, []byte{0}[:0], nil, api.ErrEOF)
			expectDecode(t, table, n, []byte{0}, nil, api.OK)
		}
	}
}

// A negative number of series precedes every other error.
func TestDecodeWithNegativeNumber(t *testing.T) {
	for _, n := range []int{-1, -2, -128, math.MinInt32, math.MinInt} {
		for _, b := range []string{"", "\x00", "\x00\x00", "\x01", "\x80", "\x80\x00", "\x7f", "\x01\x02", "\x01\x00\x01\x00", "\x01\x00\x01\x01\x00", strings.Repeat("\xff", 10)} {
			expectError(t, []string{"a", "x"}, n, api.ErrArg, []byte(b)...)
			expectError(t, nil, n, api.ErrArg, []byte(b)...)
		}
	}
}

// The bytes end at every place.
func TestDecodeOfCutIndexes(t *testing.T) {
	for _, c := range manyIndexes() {
		b := encodingOf(c.t, c.l...)
		step := 1 + len(b)/500
		for n := 0; n < len(b); n += step {
			expectError(t, c.t, c.n, api.ErrEOF, b[:n]...)
		}
		expectError(t, c.t, c.n, api.ErrEOF, b[:len(b)-1]...)
	}
}

// wrongNumbers are strings of bytes of which no beginning is a number.
var wrongNumbers = []struct {
	b string
	e api.Errno
}{
	{"\x80\x00", api.ErrMinimal},
	{"\x81\x00", api.ErrMinimal},
	{"\xff\x80\x00", api.ErrMinimal},
	{strings.Repeat("\x80", 9) + "\x00", api.ErrMinimal},
	{strings.Repeat("\x80", 9) + "\x02", api.ErrOverflow},
	{strings.Repeat("\xff", 9) + "\x7f", api.ErrOverflow},
	{strings.Repeat("\xff", 10), api.ErrOverflow},
	{strings.Repeat("\x80", 9) + "\x80\x00", api.ErrOverflow},
}

// cutNumbers are beginnings of numbers.
var cutNumbers = []string{"", "\x80", "\xff", "\x80\x80", "\xff\xff\xff\xff\xff", strings.Repeat("\x80", 9), strings.Repeat("\xff", 9)}

// A number is not minimal, too large, or cut off, in each place, whatever follows it.
func TestDecodeOfWrongNumbers(t *testing.T) {
	table := []string{"a", "x"}
	l := index(entry("a", "x", 3), entry("x", "a", 0, 1), entry("x", "x", 2, 4, 7))
	b := "\x03\x00\x01\x01\x03\x01\x00\x02\x00\x01\x01\x01\x03\x02\x02\x03"
	expectDecode(t, table, 8, []byte(b), l, api.OK)
	// Each byte is a number.
	for i := range b {
		for _, c := range wrongNumbers {
			for _, rest := range []string{"\x00", "\x01", "\x80", "\x01\x00\x01\x05", "\x80\x00\x80\x00", strings.Repeat("\x01", 20), b} {
				expectError(t, table, 8, c.e, []byte(b[:i]+c.b+rest)...)
			}
		}
		for _, cut := range cutNumbers {
			expectError(t, table, 8, api.ErrEOF, []byte(b[:i]+cut)...)
		}
	}
}

// A number of elements is greater than the number of bytes that follow, which is found before any error in them.
func TestDecodeOfTooGreatNumbers(t *testing.T) {
	table := []string{"a", "x"}
	rests := []string{"", "\x00", "\x05", "\x80\x00", "\x00\x00\x00", "\x01\x00", "\x00\x01\x01\x05", strings.Repeat("\x80", 9) + "\x02", strings.Repeat("\x01", 126), strings.Repeat("\x00", 127), strings.Repeat("\x01", 300)}
	for _, place := range []string{"", "\x01\x00\x01", "\x02\x00\x00\x01\x02\x00\x01", "\x02\x00\x00\x02\x02\x01\x01\x00"} {
		for _, rest := range rests {
			size := uint64(len(rest))
			for _, count := range []uint64{size + 1, size + 2, size + 100, 1<<31 + size, 1<<32 + size, 1<<63 - 1, 1<<63 + size, math.MaxUint64 - size, math.MaxUint64} {
				expectError(t, table, 500, api.ErrEOF, slices.Concat([]byte(place), numbers(count), []byte(rest))...)
			}
		}
	}
}

// A number of elements is equal to the number of bytes that follow, so that the elements are read.
func TestDecodeOfGreatNumbers(t *testing.T) {
	table := []string{"a", "x"}
	for size := 3; size < 300; size++ {
		zeros, ones, wrong := make([]byte, size), bytes.Repeat([]byte{1}, size), bytes.Repeat([]byte{2}, size)
		count := numbers(uint64(size))
		// Entries: the first name is not in the table, or the first entry has no series.
		expectError(t, table, 500, api.ErrSymbol, slices.Concat(count, wrong)...)
		expectError(t, table, 500, api.ErrPostings, slices.Concat(count, zeros)...)
		// Series: all of them are right, or the first difference is 0.
		expectDecode(t, table, 500, slices.Concat([]byte{1, 0, 1}, count, ones), index(entry("a", "x", upFrom(1, 1, size)...)), api.OK)
		expectError(t, table, 500, api.ErrPostings, slices.Concat([]byte{1, 0, 1}, count, zeros)...)
	}
	expectError(t, table, 500, api.ErrSymbol, 1, 2)
	expectError(t, table, 500, api.ErrEOF, 1, 0)
	expectError(t, table, 500, api.ErrEOF, 2, 0, 0x80)
	expectError(t, table, 500, api.ErrMinimal, 2, 0x80, 0)
	expectError(t, table, 500, api.ErrMinimal, 1, 0, 1, 2, 0x80, 0)
	expectDecode(t, table, 500, []byte{1, 0, 1, 1, 0}, index(entry("a", "x", 0)), api.OK)
}

// Indices just inside and just outside the table, and far outside, of the name and of the value, in the first and in later entries.
func TestDecodeOfIndices(t *testing.T) {
	for _, n := range []int{1, 2, 3, 127, 128, 129, 16384, 16385} {
		table := ascending(n)
		inside, last := uint64(n-1), table[n-1]
		expectDecode(t, table, 9, numbers(1, inside, 0, 1, 5), index(entry(last, table[0], 5)), api.OK)
		expectDecode(t, table, 9, numbers(1, 0, inside, 1, 5), index(entry(table[0], last, 5)), api.OK)
		expectDecode(t, table, 9, numbers(1, inside, inside, 1, 5), index(entry(last, last, 5)), api.OK)
		for _, wrong := range []uint64{uint64(n), uint64(n) + 1, 1 << 31, 1 << 32, 1<<32 + inside, 1<<63 - 1, 1 << 63, 1<<63 + inside, math.MaxUint64} {
			expectError(t, table, 9, api.ErrSymbol, numbers(1, wrong, 0, 1, 5)...)
			expectError(t, table, 9, api.ErrSymbol, numbers(1, 0, wrong, 1, 5)...)
			expectError(t, table, 9, api.ErrSymbol, numbers(1, wrong, wrong, 1, 5)...)
			expectError(t, table, 9, api.ErrSymbol, numbers(2, 0, 0, 1, 5, wrong, 0, 1, 5)...)
			expectError(t, table, 9, api.ErrSymbol, numbers(2, 0, 0, 1, 5, 0, wrong, 1, 5)...)
			// Nothing follows the index.
			expectError(t, table, 9, api.ErrSymbol, numbers(1, wrong)...)
			expectError(t, table, 9, api.ErrSymbol, numbers(1, 0, wrong)...)
		}
	}
}

func TestDecodeWithEmptyTable(t *testing.T) {
	for _, table := range [][]string{nil, {}, []string{"a", "x"}[:0]} {
		expectDecode(t, table, 9, []byte{0}, nil, api.OK)
		for i := range byte(128) {
			expectError(t, table, 9, api.ErrSymbol, 1, i, 0, 1, 5)
		}
	}
}

// All pairs of some labels, as those of two entries, and wrong labels of a third and a fourth entry.
func TestDecodeOfOrders(t *testing.T) {
	table := []string{"", "\x00", "A", "a", "a\x00", "aa", "b", "\xff"}
	count := map[api.Errno]int{}
	for i := range 1 << 12 {
		first, second := label(table[i&7], table[i>>3&7]), label(table[i>>6&7], table[i>>9])
		want := api.OK
		if referenceOrder(first, second) >= 0 {
			want = api.ErrOrder
		}
		count[want]++
		l := index(entry(first.Name, first.Value, 3), entry(second.Name, second.Value, 2, 4))
		if want == api.OK {
			expectDecode(t, table, 5, encodingOf(table, l...), l, want)
		} else {
			expectError(t, table, 5, want, encodingOf(table, l...)...)
			// Nothing follows the label.
			expectError(t, table, 5, want, encodingOf(table, l...)[:7]...)
		}
	}
	if count[api.OK] != 64*63/2 || count[api.ErrOrder] != 64*65/2 {
		t.Errorf("%d pairs are ascending and %d are not", count[api.OK], count[api.ErrOrder])
	}
	before := index(entry("", "", 1), entry("", "a", 0, 1))
	for _, l := range [][]Entry{
		append(before, entry("", "a", 2)), append(before, entry("", "A", 2)), append(before, entry("", "", 2)),
		append(before, entry("a", "A", 2), entry("a", "A", 2)), append(before, entry("a", "A", 2), entry("A", "b", 2)), append(before, entry("a", "A", 2), entry("", "\xff", 2)), append(before, entry("a", "A", 2), entry("a", "", 2)),
	} {
		expectError(t, table, 5, api.ErrOrder, encodingOf(table, l...)...)
	}
}

// An entry without series is the first, a middle or the last one.
func TestDecodeOfEntriesWithoutSeries(t *testing.T) {
	table := []string{"a", "x"}
	whole := index(entry("a", "a", 0), entry("a", "x", 1, 2), entry("x", "a", 3), entry("x", "x", 4))
	for i := range whole {
		l := cloneOf(whole)
		l[i].Series = nil
		b := encodingOf(table, l...)
		expectError(t, table, 5, api.ErrPostings, b...)
		expectError(t, table, 5, api.ErrPostings, encodingOf(table, l[:i+1]...)...)
		expectError(t, table, 5, api.ErrPostings, encodingOf(table, l[i:]...)...)
		expectError(t, table, 0, api.ErrPostings, b...)
	}
	expectDecode(t, table, 5, encodingOf(table, whole...), whole, api.OK)
}

// A difference is 0, at each place of the list of each entry.
func TestDecodeOfEqualNumbers(t *testing.T) {
	table := []string{"a", "x"}
	for _, start := range []int{0, 1, 127, 300} {
		series := upFrom(start, 3, 5)
		right := entry("a", "a", series...)
		for i := 1; i < len(series); i++ {
			wrong := slices.Concat(series[:i], series[i-1:])
			for _, l := range [][]Entry{index(entry("a", "x", wrong...)), index(right, entry("a", "x", wrong...)), index(right, entry("a", "x", wrong...), entry("x", "a", 1)), index(entry("a", "a", wrong[:i+1]...))} {
				expectError(t, table, 1000, api.ErrPostings, encodingOf(table, l...)...)
			}
		}
		l := index(right, entry("a", "x", series[1:]...), entry("x", "a", start))
		expectDecode(t, table, 1000, encodingOf(table, l...), l, api.OK)
	}
}

// Numbers of series that are just less than the number of all of them, equal to it, and greater, also by far.
func TestDecodeOfNumbersOfSeries(t *testing.T) {
	table := []string{"a", "x"}
	for _, n := range []int{0, 1, 2, 3, 127, 128, 129, 16384, 16385, 1 << 20, math.MaxInt32, math.MaxInt32 + 1, 1 << 40, greatest - 1, greatest} {
		bound := uint64(n)
		// A first number.
		wrong := []uint64{bound, bound + 1, bound + 2, bound + 128, 1<<63 - 1, 1 << 63, 1<<63 + 1, 1<<63 + bound - 1, math.MaxUint64 - 1, math.MaxUint64}
		for _, x := range wrong {
			expectError(t, table, n, api.ErrPostings, numbers(1, 0, 1, 1, x)...)
			expectError(t, table, n, api.ErrPostings, numbers(1, 0, 1, 2, x, 1)...)
			if n > 0 {
				expectError(t, table, n, api.ErrPostings, numbers(2, 0, 1, 1, 0, 1, 0, 1, x)...)
			}
		}
		if n > 0 {
			expectDecode(t, table, n, numbers(1, 0, 1, 1, bound-1), index(entry("a", "x", n-1)), api.OK)
			expectDecode(t, table, n, numbers(2, 0, 1, 1, bound-1, 1, 0, 1, bound-1), index(entry("a", "x", n-1), entry("x", "a", n-1)), api.OK)
		}
		// A difference after a number, which may be the second or the third.
		for _, before := range []int{0, 1, 2, 100, n / 2, n - 3, n - 2, n - 1} {
			if before < 0 || before >= n {
				continue
			}
			start, most := uint64(before), uint64(n-1-before)
			for _, x := range []uint64{0, most + 1, most + 2, most + 3, most + 128, 1<<63 - 1, 1 << 63, 1<<63 - start, 1<<63 + start, 1<<63 + most, math.MaxUint64 - start, math.MaxUint64 - start + 1, math.MaxUint64 - start + 2, math.MaxUint64 - 1, math.MaxUint64} {
				if x != 0 && x <= most {
					continue // 2^63 - 1 at most, or a sum that is 2^64 and wraps to 0
				}
				expectError(t, table, n, api.ErrPostings, numbers(1, 0, 1, 2, start, x)...)
				expectError(t, table, n, api.ErrPostings, numbers(1, 0, 1, 3, start, x, 1)...)
				if before > 0 {
					expectError(t, table, n, api.ErrPostings, numbers(1, 0, 1, 3, 0, start, x)...)
				}
			}
			if most > 0 {
				expectDecode(t, table, n, numbers(1, 0, 1, 2, start, most), index(entry("a", "x", before, n-1)), api.OK)
				expectDecode(t, table, n, numbers(1, 0, 1, 2, start, 1), index(entry("a", "x", before, before+1)), api.OK)
				expectError(t, table, n, api.ErrPostings, numbers(1, 0, 1, 3, start, most, 1)...)
			}
		}
	}
}

// Without series there is no index but the empty one, and with one series there are only lists of its number.
func TestDecodeWithFewSeries(t *testing.T) {
	table := []string{"a", "x"}
	for i := range uint64(300) {
		expectError(t, table, 0, api.ErrPostings, numbers(1, 0, 1, 1, i)...)
		expectError(t, table, 1, api.ErrPostings, numbers(1, 0, 1, 2, 0, i)...)
		if i > 0 {
			expectError(t, table, 1, api.ErrPostings, numbers(1, 0, 1, 1, i)...)
		}
	}
	expectDecode(t, table, 0, []byte{0}, nil, api.OK)
	expectDecode(t, table, 1, []byte{0}, nil, api.OK)
	expectDecode(t, table, 1, numbers(2, 0, 1, 1, 0, 1, 0, 1, 0), index(entry("a", "x", 0), entry("x", "a", 0)), api.OK)
	expectError(t, table, 0, api.ErrTrailing, 0, 0)
	expectError(t, table, 1, api.ErrTrailing, 0, 0)
}

func TestDecodeOfMoreBytes(t *testing.T) {
	for _, c := range manyIndexes() {
		b := encodingOf(c.t, c.l...)
		for _, rest := range [][]byte{{0}, {1}, {0x80}, {0xff}, {0x80, 0}, {0, 1, 5}, make([]byte, 20), b} {
			expectError(t, c.t, c.n, api.ErrTrailing, slices.Concat(b, rest)...)
		}
	}
	for i := range 256 {
		expectError(t, nil, 0, api.ErrTrailing, 0, byte(i))
		expectError(t, []string{"a"}, 6, api.ErrTrailing, 1, 0, 0, 1, 5, byte(i))
	}
}

// What is read first is reported, where several errors apply.
func TestFirstErrorOfDecode(t *testing.T) {
	minimal, overflow := "\x80\x00", strings.Repeat("\x80", 9)+"\x02"
	for _, c := range []struct {
		b    string
		want api.Errno
	}{
		// A number of elements, before the elements.
		{"\x7f\x02\x02", api.ErrEOF},
		{"\x7f\x00\x00\x00", api.ErrEOF},
		{"\x7f" + minimal, api.ErrEOF},
		{minimal + "\x02\x00", api.ErrMinimal},
		{overflow + minimal, api.ErrOverflow},
		{"\x01\x00\x01\x7f\x04", api.ErrEOF},
		{"\x01\x00\x01\x7f" + minimal, api.ErrEOF},
		{"\x01\x00\x01" + minimal + "\x04", api.ErrMinimal},
		{"\x01\x00\x01" + overflow + "\x04", api.ErrOverflow},
		// A name, before its value and before what follows the label.
		{"\x01\x02\x02\x00", api.ErrSymbol},
		{"\x01\x02" + minimal, api.ErrSymbol},
		{"\x01" + minimal + "\x02", api.ErrMinimal},
		{"\x01" + overflow + minimal, api.ErrOverflow},
		{"\x01\x02\x00\x01\x04", api.ErrSymbol},
		{"\x01\x00\x02\x00", api.ErrSymbol},
		{"\x01\x00\x02\x7f", api.ErrSymbol},
		{"\x01\x00\x02" + minimal, api.ErrSymbol},
		{"\x01\x00" + minimal + "\x00", api.ErrMinimal},
		{"\x01\x00" + minimal + "\x7f", api.ErrMinimal},
		{"\x01\x02", api.ErrSymbol},
		// An index, before the order, which is judged after the whole label.
		{"\x02\x01\x00\x01\x00\x00\x02\x01\x00", api.ErrSymbol},
		{"\x02\x01\x00\x01\x00\x02\x00\x01\x00", api.ErrSymbol},
		{"\x02\x01\x00\x01\x00\x00" + minimal + "\x01\x00", api.ErrMinimal},
		{"\x02\x01\x00\x01\x00\x00" + overflow + "\x01\x00", api.ErrOverflow},
		{"\x02\x01\x00\x01\x00\x00", api.ErrEOF},
		{"\x02\x01\x00\x01\x00\x00\x80", api.ErrEOF},
		// The order, before the number of series.
		{"\x02\x01\x00\x01\x00\x00\x01\x00", api.ErrOrder},
		{"\x02\x01\x00\x01\x00\x01\x00\x00", api.ErrOrder},
		{"\x02\x01\x01\x01\x00\x01\x00\x00", api.ErrOrder},
		{"\x02\x01\x00\x01\x00\x00\x01\x7f", api.ErrOrder},
		{"\x02\x01\x00\x01\x00\x00\x01" + minimal, api.ErrOrder},
		{"\x02\x01\x00\x01\x00\x00\x01" + overflow, api.ErrOrder},
		{"\x02\x01\x00\x01\x00\x00\x01\x01\x04", api.ErrOrder},
		{"\x02\x01\x00\x01\x00\x00\x01", api.ErrOrder},
		// A number of series of 0, before what follows it.
		{"\x02\x00\x01\x00" + minimal, api.ErrPostings},
		{"\x02\x00\x01\x00\x02\x00\x00", api.ErrPostings},
		{"\x02\x00\x01\x00\x00\x00\x01\x00", api.ErrPostings},
		{"\x01\x00\x01\x00\x00", api.ErrPostings},
		{"\x02\x00\x01\x00", api.ErrPostings},
		// The number of a series, before what follows it.
		{"\x01\x00\x01\x02\x04" + minimal, api.ErrPostings},
		{"\x01\x00\x01\x02\x04\x00", api.ErrPostings},
		{"\x01\x00\x01\x02\x04\x80", api.ErrPostings},
		{"\x01\x00\x01\x02\x00\x00" + minimal, api.ErrPostings},
		{"\x01\x00\x01\x03\x00\x00" + minimal, api.ErrPostings},
		{"\x01\x00\x01\x03\x00\x04" + minimal, api.ErrPostings},
		{"\x01\x00\x01\x03" + minimal + "\x04\x00", api.ErrMinimal},
		{"\x01\x00\x01\x03\x00" + minimal + "\x00", api.ErrMinimal},
		{"\x01\x00\x01\x03\x00" + overflow + "\x00", api.ErrOverflow},
		{"\x02\x00\x01\x01\x04\x02\x00\x01\x00", api.ErrPostings},
		{"\x02\x00\x01\x01\x04\x00\x00\x01\x00", api.ErrPostings},
		{"\x01\x00\x01\x01\x04\x00", api.ErrPostings},
		// The errors of an entry, before those of later ones.
		{"\x02\x02\x00\x01\x00\x01\x00\x00", api.ErrSymbol},
		{"\x03\x01\x00\x01\x00\x00\x01\x01\x00\x02\x00\x01\x00", api.ErrOrder},
		{"\x03\x00\x00\x01\x00\x00\x01\x01\x04\x00\x00\x01\x00", api.ErrPostings},
		{"\x03\x00\x00\x01\x00\x02\x01\x01\x00\x00\x00\x01\x00", api.ErrSymbol},
		// What follows the last entry is not read.
		{"\x00" + minimal, api.ErrTrailing},
		{"\x00" + overflow, api.ErrTrailing},
		{"\x00\x01\x02\x02", api.ErrTrailing},
		{"\x01\x00\x01\x01\x00\x00\x01\x01\x00", api.ErrTrailing},
		{"\x01\x00\x01\x01\x00" + minimal, api.ErrTrailing},
		{"\x01\x00\x01\x01\x00\x80", api.ErrTrailing},
	} {
		expectError(t, []string{"a", "x"}, 4, c.want, []byte(c.b)...)
	}
}

// Elements behind the end of a slice do not belong to it.
func TestDecodeStaysWithinTheSlices(t *testing.T) {
	table, b := []string{"a", "x", "y"}, []byte{1, 0, 1, 2, 3, 4, 0}
	expectError(t, table, 9, api.ErrTrailing, b...)
	for n := range 6 {
		expectError(t, table, 9, api.ErrEOF, b[:n]...)
	}
	expectDecode(t, table[:2], 9, b[:6], index(entry("a", "x", 3, 7)), api.OK)
	expectError(t, table[:1], 9, api.ErrSymbol, b[:6]...)
}

// Decoding keeps and shares nothing, and no two lists of a result share memory.
func TestDecodeSharesNoMemory(t *testing.T) {
	for _, c := range manyIndexes() {
		b, table := encodingOf(c.t, c.l...), slices.Clone(c.t)
		one, _ := Decode(table, c.n, b)
		two, _ := Decode(table, c.n, b)
		clear(table)
		clear(b)
		if !isEqual(one, c.l) {
			t.Errorf("the index %s has become %s", shown(c.l), shown(one))
		}
		for i, x := range one {
			overwrite(x.Series)
			if !isEqual(one[i+1:], c.l[i+1:]) {
				t.Fatalf("the entries of %s share memory", shown(c.l))
			}
		}
		clear(one[:cap(one)])
		if !isEqual(two, c.l) {
			t.Errorf("the index %s has become %s", shown(c.l), shown(two))
		}
	}
}

// P15.5

func TestDecodeInvertsEncode(t *testing.T) {
	table := ascending(2000)
	large := boundedIndex{table, 1 << 20, randomIndex(rand.New(rand.NewSource(155)), table, 1<<20, 30000)}
	for _, c := range append(manyIndexes(), large) {
		b, e := Encode(c.t, c.l)
		if e != api.OK {
			t.Errorf("Encode of %s returns %v", shown(c.l), e)
		}
		expectDecode(t, c.t, c.n, b, c.l, api.OK)
		// The numbers of the series are less than the least bound that is accepted.
		least := 0
		for _, x := range c.l {
			least = max(least, slices.Max(x.Series)+1)
		}
		expectDecode(t, c.t, least, b, c.l, api.OK)
		if least > 0 {
			expectError(t, c.t, least-1, api.ErrPostings, b...)
		}
	}
}

// The index of label sets is encoded and read back, and lists exactly the sets that contain a label.
func TestFindInBuiltIndex(t *testing.T) {
	source := rand.New(rand.NewSource(156))
	for i := range 200 {
		l := randomSets(source, i%60)
		var table []string
		for _, x := range labelsOf(l) {
			table = append(table, x.Name, x.Value)
		}
		slices.Sort(table)
		table = slices.Compact(table)
		built := Build(l)
		b, e := Encode(table, built)
		if e != api.OK {
			t.Errorf("Encode of %s returns %v", shown(built), e)
		}
		expectDecode(t, table, len(l), b, built, api.OK)
		for _, name := range append(table, "", "c", "\xff\xff") {
			var named []int
			for _, value := range append(table, "", "c", "\xff\xff") {
				x := label(name, value)
				expectFind(t, built, x, having(l, x)...)
				named = append(named, having(l, x)...)
			}
			slices.Sort(named)
			expectNamed(t, built, name, slices.Compact(named)...)
		}
	}
}

// checkDecode compares Decode with the reference, and what it accepts with Encode.
func checkDecode(t *testing.T, table []string, n int, b []byte) api.Errno {
	t.Helper()
	l, e := referenceDecode(table, n, b)
	expectDecode(t, table, n, b, l, e)
	if e == api.OK {
		expectEncode(t, table, l, b, api.OK)
	}
	return e
}

// expectCounts checks that each of some errors occurred often.
func expectCounts(t *testing.T, count map[api.Errno]int, least int, errors ...api.Errno) {
	t.Helper()
	for _, e := range errors {
		if count[e] < least {
			t.Errorf("only %d results are %v", count[e], e)
		}
	}
}

// All strings of at most two bytes, and all of at most eight bytes out of a few, with small tables and numbers of series.
func TestDecodeOfAllShortBytes(t *testing.T) {
	table := []string{"a", "x"}
	count := map[api.Errno]int{}
	for i := range 1 << 8 {
		count[checkDecode(t, table, 5, []byte{byte(i)})]++
	}
	for i := range 1 << 16 {
		count[checkDecode(t, table, 5, []byte{byte(i >> 8), byte(i)})]++
	}
	var extend func(b []byte)
	extend = func(b []byte) {
		for size := range 3 {
			for n := range 3 {
				count[checkDecode(t, table[:size], n, b)]++
			}
		}
		if len(b) < 8 {
			for _, c := range []byte{0, 1, 2, 0x80} {
				extend(append(b[:len(b):len(b)], c))
			}
		}
	}
	extend(nil)
	expectCounts(t, count, 30, api.OK, api.ErrEOF, api.ErrMinimal, api.ErrSymbol, api.ErrOrder, api.ErrPostings, api.ErrTrailing)
}

// All strings of nine bytes that begin with the number of two entries, with three others.
func TestDecodeOfAllPairsOfEntries(t *testing.T) {
	table := []string{"a", "x"}
	count := map[api.Errno]int{}
	var extend func(b []byte)
	extend = func(b []byte) {
		if len(b) == 9 {
			for n := range 3 {
				count[checkDecode(t, table, n, b)]++
			}
			return
		}
		for _, c := range []byte{0, 1, 2} {
			extend(append(b[:len(b):len(b)], c))
		}
	}
	extend([]byte{2})
	expectCounts(t, count, 20, api.OK, api.ErrEOF, api.ErrSymbol, api.ErrOrder, api.ErrPostings)
}

// Every byte of a short encoding, and some of a long one, is changed to some others.
func TestDecodeOfChangedBytes(t *testing.T) {
	source := rand.New(rand.NewSource(157))
	count := map[api.Errno]int{}
	for _, c := range manyIndexes() {
		b := encodingOf(c.t, c.l...)
		places := source.Perm(len(b))
		if len(b) > 80 {
			places = places[:40]
		}
		for _, i := range places {
			for _, change := range []byte{1, 2, 3, 4, 0x40, 0x80, 0x81, 0xff, b[i], ^b[i], byte(1 + source.Intn(255))} {
				if change != 0 {
					changed := bytes.Clone(b)
					changed[i] ^= change
					count[checkDecode(t, c.t, c.n, changed)]++
				}
			}
		}
	}
	expectCounts(t, count, 300, api.OK, api.ErrEOF, api.ErrMinimal, api.ErrSymbol, api.ErrOrder, api.ErrPostings, api.ErrTrailing)
}

// Every byte of a few encodings is changed to every other one.
func TestDecodeOfAllChangedBytes(t *testing.T) {
	for _, c := range encodings {
		for i := range c.b {
			changed := []byte(c.b)
			for range 255 {
				changed[i]++
				checkDecode(t, c.t, c.n, changed)
			}
		}
	}
}

func TestDecodeOfAnyBytes(t *testing.T) {
	source := rand.New(rand.NewSource(158))
	table := ascending(20)
	for range 100000 {
		b := make([]byte, source.Intn(40))
		source.Read(b)
		for i := range b {
			b[i] >>= source.Intn(9)
		}
		checkDecode(t, table[:source.Intn(21)], source.Intn(100), b)
	}
}

// P1, P2

// The results for entries and sets that are not as specified are not either, but there are some.
func TestOtherArguments(t *testing.T) {
	some := index(entry("b", "2", 3, 1), entry("a", "1"), entry("b", "2", -5, 7, 7), entry("", "", math.MinInt, greatest), entry("c", ""))
	table := []string{"c", "a", "b", "a", ""}
	for i := range some {
		for j := range some {
			for k := range some {
				l := cloneOf(index(some[i], some[j], some[k]))
				for _, x := range some {
					Find(l, x.Label)
					Named(l, x.Label.Name)
				}
				Encode(table, l)
				Build(sets(set("b", "1", "a", "1", "b", "1", "", ""), []api.Label{l[0].Label, l[1].Label, l[0].Label}))
				if !isEqual(l, index(some[i], some[j], some[k])) || !isGuarded(l) {
					t.Errorf("a function has changed its arguments to %s", shown(l))
				}
				for n := range 4 {
					Decode(table, n, encodingOf(table, l...))
				}
			}
		}
	}
}

func TestCallsAreIndependent(t *testing.T) {
	l := randomSets(rand.New(rand.NewSource(159)), 300)
	built, x := referenceBuild(l), label("a", "aa")
	var group sync.WaitGroup
	for _, c := range manyIndexes() {
		group.Go(func() {
			b, e := Encode(c.t, c.l)
			got, f := Decode(c.t, c.n, b)
			if e != api.OK || f != api.OK || !isEqual(got, c.l) {
				t.Errorf("Decode returns %s and %v, want %s", shown(got), f, shown(c.l))
			}
			if !isEqual(Build(l), built) || !slices.Equal(Find(built, x), referenceFind(built, x)) || !slices.Equal(Named(built, "aa"), referenceNamed(built, "aa")) {
				t.Error("a call returns another result beside others")
			}
		})
	}
	group.Wait()
}
