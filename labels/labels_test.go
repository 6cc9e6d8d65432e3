package labels

import (
	"fmt"
	"math/rand"
	"slices"
	"strings"
	"sync"
	"testing"

	"tsblock/api"
)

// labelsOf returns labels with names and values in turn.
func labelsOf(pairs ...string) []api.Label {
	var l []api.Label
	for i := 0; i < len(pairs); i += 2 {
		l = append(l, api.Label{Name: pairs[i], Value: pairs[i+1]})
	}
	return l
}

// long returns a string of n bytes.
func long(n int) string { return strings.Repeat("m", n) }

var (
	most = long(api.MaxString)
	more = long(api.MaxString + 1)
)

// ascending returns a label set with n labels.
func ascending(n int) []api.Label {
	var l []api.Label
	for i := range n {
		l = append(l, api.Label{Name: fmt.Sprintf("%06d", i), Value: fmt.Sprint(n - i)})
	}
	return l
}

// sets are label sets: ordinary ones, and those at the edges of the definition.
func sets() [][]api.Label {
	return [][]api.Label{
		nil,
		{},
		labelsOf("a", "1"),
		labelsOf("a", ""),
		labelsOf("\x00", "\x00"),
		labelsOf("a", "1", "b", "2"),
		labelsOf("a", "2", "b", "1"),
		labelsOf("a", "", "b", "", "c", ""),
		labelsOf("a", "same", "b", "same", "c", "same"),
		labelsOf("a", "a", "b", "b"),
		labelsOf("a", "", "aa", "", "aaa", "", "ab", ""),
		labelsOf("a", "9", "a\x00", "8", "a\x00\x00", "7", "a\x01", "6"),
		labelsOf("Z", "1", "a", "2", "z", "3"),
		labelsOf("10", "ten", "9", "nine"),
		labelsOf("\x7f", "1", "\x80", "2", "\xff", "3", "\xff\x00", "4", "\xff\xff", "5"),
		labelsOf("a\x7f", "1", "a\x80", "2", "a\xff", "3", "b", "4"),
		labelsOf("z", "1", "ä", "2", "ö", "3", "日", "4", "\xff", "5"),
		labelsOf("\n", "\"", "{", "}", "}", "{"),
		labelsOf(most, "1"),
		labelsOf("a", most),
		labelsOf(most, most),
		labelsOf("a", most, long(api.MaxString-1), most, most, most, "n", most),
		labelsOf("job", "node", "name", "cpu", "zone", "eu"),
		ascending(2),
		ascending(100),
		ascending(1000),
	}
}

// less compares two strings byte by byte, as chapter 10 says it.
func less(a, b string) bool {
	if a == b {
		return false
	}
	for i := range min(len(a), len(b)) {
		if a[i] != b[i] {
			return a[i] < b[i]
		}
	}
	return len(a) < len(b)
}

// referenceCheck lists the errors of all labels, and takes the first one.
func referenceCheck(l []api.Label) api.Errno {
	var errors []api.Errno
	for i, x := range l {
		errors = append(errors, referenceErrors(x)...)
		if i > 0 && l[i-1].Name == x.Name {
			errors = append(errors, api.ErrDuplicate)
		}
		if i > 0 && less(x.Name, l[i-1].Name) {
			errors = append(errors, api.ErrOrder)
		}
	}
	return append(errors, api.OK)[0]
}

// referenceErrors lists the errors of a label apart from those beside it.
func referenceErrors(x api.Label) []api.Errno {
	var errors []api.Errno
	if len(x.Name) == 0 {
		errors = append(errors, api.ErrName)
	}
	if max(len(x.Name), len(x.Value)) > 65535 {
		errors = append(errors, api.ErrLimit)
	}
	return errors
}

// referenceNormalize looks at every pair of labels, and puts each label behind all those with a lesser name.
func referenceNormalize(l []api.Label) ([]api.Label, api.Errno) {
	var errors []api.Errno
	for _, x := range l {
		errors = append(errors, referenceErrors(x)...)
	}
	set := make([]api.Label, len(l))
	for i, x := range l {
		place := 0
		for j, y := range l {
			if i != j && x.Name == y.Name {
				errors = append(errors, api.ErrDuplicate)
			}
			if less(y.Name, x.Name) {
				place++
			}
		}
		set[place] = x
	}
	if len(errors) > 0 {
		return nil, errors[0]
	}
	return set, api.OK
}

// referenceLess compares two lists of labels from their first labels on.
func referenceLess(a, b []api.Label) bool {
	switch {
	case len(a) == 0 || len(b) == 0:
		return len(a) < len(b)
	case a[0].Name != b[0].Name:
		return less(a[0].Name, b[0].Name)
	case a[0].Value != b[0].Value:
		return less(a[0].Value, b[0].Value)
	default:
		return referenceLess(a[1:], b[1:])
	}
}

func referenceCompare(a, b []api.Label) int {
	switch {
	case referenceLess(a, b):
		return -1
	case referenceLess(b, a):
		return 1
	default:
		return 0
	}
}

// listsOf returns all lists of at most n labels with some names and values.
func listsOf(n int, names, values []string) [][]api.Label {
	all := [][]api.Label{nil}
	for from := 0; n > 0; n-- {
		shorter := all[from:]
		from = len(all)
		for _, l := range shorter {
			for _, name := range names {
				for _, value := range values {
					all = append(all, append(slices.Clone(l), api.Label{Name: name, Value: value}))
				}
			}
		}
	}
	return all
}

// faultyLists returns all lists of at most four labels out of some with and without errors.
func faultyLists() [][]api.Label {
	return listsOf(4, []string{"", "a", "ab", "\x80", more}, []string{"", "1", "n" + more})
}

// orders returns the labels of l in every order.
func orders(l []api.Label) [][]api.Label {
	if len(l) == 0 {
		return [][]api.Label{nil}
	}
	var all [][]api.Label
	for i, x := range l {
		for _, rest := range orders(slices.Delete(slices.Clone(l), i, i+1)) {
			all = append(all, append(rest, x))
		}
	}
	return all
}

// randomString returns a string with few different bytes, so that strings are often equal or prefixes of others.
func randomString(source *rand.Rand) string {
	var s []byte
	for range source.Intn(4) {
		s = append(s, "\x00a\x7f\x80\xff"[source.Intn(5)])
	}
	return string(s)
}

// randomLabels returns labels of which few have an empty name or a string that is too long.
func randomLabels(source *rand.Rand, n int) []api.Label {
	var l []api.Label
	for range n {
		x := api.Label{Name: randomString(source), Value: randomString(source)}
		if x.Name == "" && source.Intn(3) > 0 {
			x.Name = "b"
		}
		switch source.Intn(60) {
		case 0:
			x.Name = more
		case 1:
			x.Value = more
		case 2:
			x.Name = most
		case 3:
			x.Value = most
		}
		l = append(l, x)
	}
	return l
}

// quoted returns a string for a message.
func quoted(s string) string {
	if len(s) > 60 {
		return fmt.Sprintf("%q... (%d bytes)", s[:10], len(s))
	}
	return fmt.Sprintf("%q", s)
}

// quotedAll returns strings for a message.
func quotedAll(l []string) string {
	var parts []string
	for _, s := range l[:min(len(l), 40)] {
		parts = append(parts, quoted(s))
	}
	return fmt.Sprintf("%v (%d strings)", parts, len(l))
}

// shown returns labels for a message.
func shown(l []api.Label) string {
	var parts []string
	for _, x := range l[:min(len(l), 20)] {
		parts = append(parts, quoted(x.Name)+"="+quoted(x.Value))
	}
	return fmt.Sprintf("%v (%d labels)", parts, len(l))
}

// expectCheck checks all that Check does.
func expectCheck(t *testing.T, l []api.Label, want api.Errno) {
	t.Helper()
	kept := slices.Clone(l)
	if e := Check(l); e != want {
		t.Errorf("Check of %s returns %v, want %v", shown(l), e, want)
	}
	if !slices.Equal(l, kept) {
		t.Errorf("Check has changed %s to %s", shown(kept), shown(l))
	}
}

// expectNormalize checks all that Normalize does.
func expectNormalize(t *testing.T, l, want []api.Label, wantError api.Errno) {
	t.Helper()
	kept := slices.Clone(l)
	got, e := Normalize(l)
	if e != wantError || !slices.Equal(got, want) {
		t.Errorf("Normalize of %s returns %s and %v, want %s and %v", shown(l), shown(got), e, shown(want), wantError)
	}
	if !slices.Equal(l, kept) {
		t.Errorf("Normalize has changed %s to %s", shown(kept), shown(l))
	}
}

// expectRefused checks that Normalize returns an error alone.
func expectRefused(t *testing.T, l []api.Label, want api.Errno) {
	t.Helper()
	expectNormalize(t, l, nil, want)
}

// expectCompare checks Compare in both directions.
func expectCompare(t *testing.T, a, b []api.Label, want int) {
	t.Helper()
	keptA, keptB := slices.Clone(a), slices.Clone(b)
	if got := Compare(a, b); got != want {
		t.Errorf("Compare of %s and %s returns %d, want %d", shown(a), shown(b), got, want)
	}
	if got := Compare(b, a); got != -want {
		t.Errorf("Compare of %s and %s returns %d, want %d", shown(b), shown(a), got, -want)
	}
	if !slices.Equal(a, keptA) || !slices.Equal(b, keptB) {
		t.Errorf("Compare has changed %s and %s to %s and %s", shown(keptA), shown(keptB), shown(a), shown(b))
	}
}

// expectGet checks that a name has a value.
func expectGet(t *testing.T, l []api.Label, name, want string) {
	t.Helper()
	if value, ok := Get(l, name); value != want || !ok {
		t.Errorf("Get of %s in %s returns %s and %v, want %s", quoted(name), shown(l), quoted(value), ok, quoted(want))
	}
}

// expectNoValue checks that a name is not found.
func expectNoValue(t *testing.T, l []api.Label, name string) {
	t.Helper()
	if value, ok := Get(l, name); value != "" || ok {
		t.Errorf("Get of %s in %s returns %s and %v", quoted(name), shown(l), quoted(value), ok)
	}
}

// expectStrings checks all that Strings does.
func expectStrings(t *testing.T, l []api.Label, want ...string) {
	t.Helper()
	kept := slices.Clone(l)
	if got := Strings(l); !slices.Equal(got, want) {
		t.Errorf("Strings of %s returns %s, want %s", shown(l), quotedAll(got), quotedAll(want))
	}
	if !slices.Equal(l, kept) {
		t.Errorf("Strings has changed %s to %s", shown(kept), shown(l))
	}
}

// P11.1

func TestCheckOfSets(t *testing.T) {
	for _, l := range sets() {
		expectCheck(t, l, api.OK)
	}
}

// The empty name is first, in the middle, last, and at several places.
func TestCheckOfEmptyNames(t *testing.T) {
	for _, l := range [][]api.Label{
		labelsOf("", ""),
		labelsOf("", "1"),
		labelsOf("", "1", "a", "2", "b", "3"),
		labelsOf("a", "2", "", "1", "b", "3"),
		labelsOf("a", "2", "b", "3", "", "1"),
		labelsOf("a", "1", "", "1"),
		labelsOf("", "", "", ""),
		labelsOf("a", "1", "", "1", "", "2"),
		labelsOf("\x00", "", "", ""),
	} {
		expectCheck(t, l, api.ErrName)
	}
	for i := range 101 {
		expectCheck(t, slices.Insert(ascending(100), i, api.Label{Value: "x"}), api.ErrName)
	}
}

func TestCheckOfLongStrings(t *testing.T) {
	for _, n := range []int{1, 2, 65533, 65534, 65535} {
		expectCheck(t, labelsOf("a", long(n)), api.OK)
		expectCheck(t, labelsOf("a", long(n), "b", long(n)), api.OK)
		expectCheck(t, labelsOf(long(n), ""), api.OK)
		expectCheck(t, labelsOf("a", "1", long(n), long(n), "n", "2"), api.OK)
	}
	for _, n := range []int{65536, 65537, 2 * 65535, 2 * 65536, 1 << 20} {
		s := long(n)
		for _, l := range [][]api.Label{
			labelsOf(s, ""),
			labelsOf(s, "1"),
			labelsOf("a", s),
			labelsOf(s, s),
			labelsOf(s, most),
			labelsOf(most, s),
			labelsOf(s, "1", "n", "2"),
			labelsOf("a", "1", s, "2"),
			labelsOf("a", "1", s, "2", "n", "3"),
			labelsOf("a", s, "b", "2"),
			labelsOf("a", "1", "b", s),
			labelsOf("a", "1", "b", s, "c", "3"),
			labelsOf(most, "1", s, "2"),
		} {
			expectCheck(t, l, api.ErrLimit)
		}
	}
	for i := range 100 {
		l := ascending(100)
		l[i].Value = most
		expectCheck(t, l, api.OK)
		l[i].Value = more
		expectCheck(t, l, api.ErrLimit)
		l[i] = api.Label{Name: more}
		expectCheck(t, l, api.ErrLimit)
	}
}

func TestCheckOfEqualNames(t *testing.T) {
	for _, l := range [][]api.Label{
		labelsOf("a", "1", "a", "1"),
		labelsOf("a", "1", "a", "2"),
		labelsOf("a", "2", "a", "1"),
		labelsOf("a", "", "a", ""),
		labelsOf("a", "1", "a", "2", "b", "3"),
		labelsOf("a", "1", "b", "2", "b", "3"),
		labelsOf("a", "1", "b", "2", "b", "2", "c", "3"),
		labelsOf("a", "1", "a", "2", "a", "3"),
		labelsOf("\x00", "1", "\x00", "2"),
		labelsOf("\xff", "1", "\xff", "2"),
		labelsOf("a\x00", "1", "a\x00", "2"),
		labelsOf(most, "1", most, "2"),
		labelsOf(most, most, most, most),
	} {
		expectCheck(t, l, api.ErrDuplicate)
	}
}

func TestCheckOfWrongOrder(t *testing.T) {
	for _, l := range [][]api.Label{
		labelsOf("b", "1", "a", "2"),
		labelsOf("b", "1", "a", "1"),
		labelsOf("b", "", "a", ""),
		labelsOf("a", "1", "c", "2", "b", "3"),
		labelsOf("b", "1", "a", "2", "c", "3"),
		labelsOf("a", "1", "b", "2", "a", "3"),
		labelsOf("a", "1", "b", "2", "a", "1"),
		labelsOf("aa", "1", "a", "2"),
		labelsOf("a\x00", "1", "a", "2"),
		labelsOf("ab", "1", "aa", "2"),
		labelsOf("b", "1", "aa", "2"),
		labelsOf("a", "1", "Z", "2"),
		labelsOf("9", "1", "10", "2"),
		labelsOf("\x80", "1", "\x7f", "2"),
		labelsOf("\xff", "1", "\x00", "2"),
		labelsOf("a\xff", "1", "a\x7f", "2"),
		labelsOf("ä", "1", "z", "2"),
		labelsOf("\xff", "1", "日", "2"),
		labelsOf(most, "1", long(api.MaxString-1), "2"),
		labelsOf(most, "1", "l", "2"),
	} {
		expectCheck(t, l, api.ErrOrder)
	}
}

// Each pair of neighbors of a label set is exchanged, or gets equal names.
func TestCheckOfWrongNeighbors(t *testing.T) {
	for i := range 199 {
		l := ascending(200)
		l[i], l[i+1] = l[i+1], l[i]
		expectCheck(t, l, api.ErrOrder)
		l[i].Name = l[i+1].Name
		expectCheck(t, l, api.ErrDuplicate)
		l[i] = l[i+1]
		expectCheck(t, l, api.ErrDuplicate)
	}
}

// Several errors in one label: they are returned in the order of the chapter.
func TestFirstErrorInOneLabel(t *testing.T) {
	for _, c := range []struct {
		l    []api.Label
		want api.Errno
	}{
		{labelsOf("", more), api.ErrName},
		{labelsOf("a", "1", "", more), api.ErrName},
		{labelsOf("a", "1", "", "1"), api.ErrName},
		{labelsOf("n", "1", more, "2"), api.ErrLimit},
		{labelsOf("n", "1", more, more), api.ErrLimit},
		{labelsOf("b", "1", "a", more), api.ErrLimit},
		{labelsOf("a", "1", "a", more), api.ErrLimit},
		{labelsOf("a", more, "a", more), api.ErrLimit},
		{labelsOf(more, "1", more, "2"), api.ErrLimit},
		{labelsOf("b", "1", "a", "1"), api.ErrOrder},
		{labelsOf("a", "1", "b", "1", "b", "1"), api.ErrDuplicate},
	} {
		expectCheck(t, c.l, c.want)
	}
}

// Several errors in different labels: that of the first label is returned.
func TestFirstErrorInSeveralLabels(t *testing.T) {
	for _, c := range []struct {
		l    []api.Label
		want api.Errno
	}{
		{labelsOf("", "1", more, "2"), api.ErrName},
		{labelsOf(more, "1", "", "2"), api.ErrLimit},
		{labelsOf("a", more, "", "2"), api.ErrLimit},
		{labelsOf("", "1", "b", "2", "b", "3"), api.ErrName},
		{labelsOf("b", "1", "b", "2", "", "3"), api.ErrDuplicate},
		{labelsOf("", "1", "b", "2", "a", "3"), api.ErrName},
		{labelsOf("b", "1", "a", "2", "", "3"), api.ErrOrder},
		{labelsOf("a", more, "b", "2", "b", "3"), api.ErrLimit},
		{labelsOf("b", "1", "b", "2", "c", more), api.ErrDuplicate},
		{labelsOf("b", "1", "b", "2", more, "3"), api.ErrDuplicate},
		{labelsOf("c", more, "b", "2", "a", "3"), api.ErrLimit},
		{labelsOf("b", "1", "a", "2", "c", more), api.ErrOrder},
		{labelsOf("b", "1", "a", "2", more, "3"), api.ErrOrder},
		{labelsOf("b", "1", "b", "2", "a", "3"), api.ErrDuplicate},
		{labelsOf("b", "1", "a", "2", "a", "3"), api.ErrOrder},
		{labelsOf("a", "1", "b", "2", "b", "3", "a", "4"), api.ErrDuplicate},
		{labelsOf("a", "1", "c", "2", "b", "3", "b", "4"), api.ErrOrder},
		// The same name again, but not in the label before.
		{labelsOf("b", "1", "a", "2", "b", "3"), api.ErrOrder},
		{labelsOf("a", "1", "b", "2", "a", "1"), api.ErrOrder},
	} {
		expectCheck(t, c.l, c.want)
	}
}

func TestCheckOfAllShortLists(t *testing.T) {
	count := map[api.Errno]int{}
	for _, l := range faultyLists() {
		want := referenceCheck(l)
		expectCheck(t, l, want)
		count[want]++
	}
	for _, e := range []api.Errno{api.OK, api.ErrName, api.ErrLimit, api.ErrDuplicate, api.ErrOrder} {
		if count[e] < 10 {
			t.Errorf("only %d results are %v", count[e], e)
		}
	}
}

func TestCheckEqualsReference(t *testing.T) {
	source := rand.New(rand.NewSource(11))
	for range 20000 {
		l := randomLabels(source, source.Intn(8))
		if source.Intn(2) == 0 {
			slices.SortFunc(l, func(x, y api.Label) int { return referenceCompare([]api.Label{x}, []api.Label{y}) })
		}
		expectCheck(t, l, referenceCheck(l))
	}
}

// Labels behind the end of a list, and before its beginning, do not belong to it.
func TestCheckStaysWithinTheList(t *testing.T) {
	l := labelsOf("b", "1", "c", "2", "c", "3", "a", "4", "", "5")
	expectCheck(t, l[:0], api.OK)
	expectCheck(t, l[:1], api.OK)
	expectCheck(t, l[:2], api.OK)
	expectCheck(t, l[:3], api.ErrDuplicate)
	expectCheck(t, l[2:3], api.OK)
	expectCheck(t, l[2:4], api.ErrOrder)
	expectCheck(t, l[3:4], api.OK)
	expectCheck(t, l[3:], api.ErrName)
}

// P11.2

func TestNormalize(t *testing.T) {
	for _, c := range []struct{ l, want []api.Label }{
		{nil, nil},
		{[]api.Label{}, nil},
		{labelsOf("a", "1"), labelsOf("a", "1")},
		{labelsOf("b", "2", "a", "1"), labelsOf("a", "1", "b", "2")},
		{labelsOf("a", "1", "b", "2"), labelsOf("a", "1", "b", "2")},
		{labelsOf("b", "1", "a", "2"), labelsOf("a", "2", "b", "1")},
		{labelsOf("b", "", "a", ""), labelsOf("a", "", "b", "")},
		{labelsOf("c", "x", "a", "x", "b", "x"), labelsOf("a", "x", "b", "x", "c", "x")},
		{labelsOf("ab", "1", "b", "2", "a", "3", "aa", "4"), labelsOf("a", "3", "aa", "4", "ab", "1", "b", "2")},
		{labelsOf("a\x00", "1", "a", "2", "\x00", "3"), labelsOf("\x00", "3", "a", "2", "a\x00", "1")},
		{labelsOf("\xff", "1", "\x80", "2", "\x7f", "3", "\xff\x00", "4"), labelsOf("\x7f", "3", "\x80", "2", "\xff", "1", "\xff\x00", "4")},
		{labelsOf("ö", "1", "z", "2", "ä", "3"), labelsOf("z", "2", "ä", "3", "ö", "1")},
		{labelsOf("9", "1", "10", "2", "a", "3", "Z", "4"), labelsOf("10", "2", "9", "1", "Z", "4", "a", "3")},
		{labelsOf("n", most, most, "1", long(api.MaxString-1), "2"), labelsOf(long(api.MaxString-1), "2", most, "1", "n", most)},
	} {
		expectNormalize(t, c.l, c.want, api.OK)
	}
}

func TestNormalizeOfAllOrders(t *testing.T) {
	for _, set := range [][]api.Label{
		labelsOf("a", "3", "aa", "1", "ab", "4", "b", "2", "\x80", "5"),
		labelsOf("\x00", "", "a", "", "a\x00", "", "\xff", ""),
		labelsOf("a", "same", "b", "same", "c", "same", "d", "same"),
		labelsOf("a", most, most, "1", "n", most),
	} {
		for _, l := range orders(set) {
			expectNormalize(t, l, set, api.OK)
		}
	}
}

func TestNormalizeOfManyLabels(t *testing.T) {
	source := rand.New(rand.NewSource(111))
	for _, n := range []int{10, 11, 12, 13, 30, 50, 100, 1000, 20000} {
		want := ascending(n)
		l := slices.Clone(want)
		slices.Reverse(l)
		expectNormalize(t, l, want, api.OK)
		source.Shuffle(n, func(i, j int) { l[i], l[j] = l[j], l[i] })
		expectNormalize(t, l, want, api.OK)
	}
}

func TestNormalizeOfEmptyNames(t *testing.T) {
	for _, l := range [][]api.Label{
		labelsOf("", ""),
		labelsOf("", "1"),
		labelsOf("", "1", "a", "2", "b", "3"),
		labelsOf("b", "2", "", "1", "a", "3"),
		labelsOf("b", "2", "a", "3", "", "1"),
		labelsOf("", "1", "", "2"),
	} {
		expectRefused(t, l, api.ErrName)
	}
}

func TestNormalizeOfLongStrings(t *testing.T) {
	expectNormalize(t, labelsOf(most, "1"), labelsOf(most, "1"), api.OK)
	expectNormalize(t, labelsOf("a", most), labelsOf("a", most), api.OK)
	for _, l := range [][]api.Label{
		labelsOf(more, "1"),
		labelsOf("a", more),
		labelsOf(more, more),
		labelsOf(more, "1", "n", "2", "a", "3"),
		labelsOf("n", "2", more, "1", "a", "3"),
		labelsOf("n", "2", "a", "3", more, "1"),
		labelsOf("b", more, "a", "2"),
		labelsOf("b", "1", "a", more),
		labelsOf("b", "1", "a", long(1<<20)),
		labelsOf(long(2*65535), "1", "a", ""),
	} {
		expectRefused(t, l, api.ErrLimit)
	}
}

// Two labels with the same name are beside each other, or far apart.
func TestNormalizeOfEqualNames(t *testing.T) {
	for _, l := range [][]api.Label{
		labelsOf("a", "1", "a", "1"),
		labelsOf("a", "1", "a", "2"),
		labelsOf("a", "2", "a", "1"),
		labelsOf("a", "", "a", ""),
		labelsOf("a", "1", "b", "2", "a", "3"),
		labelsOf("a", "1", "b", "2", "a", "1"),
		labelsOf("b", "1", "a", "2", "c", "3", "b", "4"),
		labelsOf("b", "1", "c", "2", "a", "3", "a", "4"),
		labelsOf("\xff", "1", "a", "2", "\xff", "3"),
		labelsOf("a", "1", "a", "2", "a", "3"),
		labelsOf(most, "1", "a", "2", most, "3"),
	} {
		expectRefused(t, l, api.ErrDuplicate)
	}
	for i := range 300 {
		l := ascending(300)
		rand.New(rand.NewSource(int64(i))).Shuffle(300, func(i, j int) { l[i], l[j] = l[j], l[i] })
		expectRefused(t, slices.Concat(l, l[i:i+1]), api.ErrDuplicate)
		expectRefused(t, slices.Concat(l[i:i+1], l), api.ErrDuplicate)
		expectRefused(t, append(l, api.Label{Name: l[i].Name, Value: "other"}), api.ErrDuplicate)
	}
}

// What is wrong in one label is returned before equal names, whichever place it has; that of the first such label is returned.
func TestFirstErrorOfNormalize(t *testing.T) {
	for _, c := range []struct {
		l    []api.Label
		want api.Errno
	}{
		{labelsOf("", "1", "a", "2", "a", "3"), api.ErrName},
		{labelsOf("a", "1", "", "2", "a", "3"), api.ErrName},
		{labelsOf("a", "1", "a", "2", "", "3"), api.ErrName},
		{labelsOf("b", more, "a", "2", "a", "3"), api.ErrLimit},
		{labelsOf("a", "1", "b", more, "a", "3"), api.ErrLimit},
		{labelsOf("a", "1", "a", "2", "b", more), api.ErrLimit},
		{labelsOf("a", "1", "a", "2", more, "3"), api.ErrLimit},
		{labelsOf(more, "1", "a", "2", "a", "3"), api.ErrLimit},
		{labelsOf("a", more, "a", more), api.ErrLimit},
		{labelsOf("a", "1", "a", more), api.ErrLimit},
		{labelsOf(more, "1", more, "2"), api.ErrLimit},
		{labelsOf("", more), api.ErrName},
		{labelsOf("b", "1", "", more, "a", "3"), api.ErrName},
		{labelsOf("", "1", more, "2"), api.ErrName},
		{labelsOf("", "1", "a", more), api.ErrName},
		{labelsOf(more, "1", "", "2"), api.ErrLimit},
		{labelsOf("z", more, "", "2"), api.ErrLimit},
		{labelsOf("c", "1", "z", more, "b", "2", "", "3", "a", "4"), api.ErrLimit},
		{labelsOf("c", "1", "", "2", "b", "3", "a", more), api.ErrName},
		{labelsOf("c", "1", "c", "2", "", "3", "a", more), api.ErrName},
		{labelsOf("c", "1", "c", "2", "z", more, "", "3"), api.ErrLimit},
	} {
		expectRefused(t, c.l, c.want)
	}
}

func TestNormalizeOfAllShortLists(t *testing.T) {
	count := map[api.Errno]int{}
	for _, l := range faultyLists() {
		want, e := referenceNormalize(l)
		expectNormalize(t, l, want, e)
		count[e]++
	}
	for _, e := range []api.Errno{api.OK, api.ErrName, api.ErrLimit, api.ErrDuplicate} {
		if count[e] < 50 {
			t.Errorf("only %d results are %v", count[e], e)
		}
	}
}

func TestNormalizeEqualsReference(t *testing.T) {
	source := rand.New(rand.NewSource(112))
	for range 20000 {
		l := randomLabels(source, source.Intn(9))
		want, e := referenceNormalize(l)
		expectNormalize(t, l, want, e)
	}
}

// Labels behind the end of a list, and before its beginning, do not belong to it.
func TestNormalizeStaysWithinTheList(t *testing.T) {
	l := labelsOf("c", "1", "b", "2", "a", "3", "b", "4", "", "5")
	kept := slices.Clone(l)
	for from := range l {
		for to := from; to <= len(l); to++ {
			want, e := referenceNormalize(l[from:to])
			expectNormalize(t, l[from:to], want, e)
		}
	}
	if !slices.Equal(l, kept) {
		t.Errorf("Normalize has changed %q to %q", kept, l)
	}
}

func TestNormalizeSharesNoMemory(t *testing.T) {
	for _, set := range sets() {
		backing := append(slices.Clone(set), labelsOf("behind", "1", "it", "2")...)
		l := backing[:len(set)]
		slices.Reverse(l)
		kept := slices.Clone(backing)
		one, _ := Normalize(l)
		two, _ := Normalize(l)
		clear(append(one, labelsOf("x", "1", "y", "2")...))
		clear(one)
		if !slices.Equal(backing, kept) || !slices.Equal(two, set) {
			t.Errorf("the label set %s shares memory", shown(set))
		}
		clear(backing)
		if !slices.Equal(two, set) {
			t.Errorf("the label set %s shares memory with its labels", shown(set))
		}
	}
}

// P11.3

// ladder are lists of labels in strictly ascending order; most of them are no label sets.
func ladder() [][]api.Label {
	return [][]api.Label{
		nil,
		labelsOf("", ""),
		labelsOf("", "", "", ""),
		labelsOf("", "", "z", "z"),
		labelsOf("", "1"),
		labelsOf("\x00", ""),
		labelsOf("Z", "9"),
		labelsOf("a", ""),
		labelsOf("a", "", "b", "1"),
		labelsOf("a", "1"),
		labelsOf("a", "1", "", ""),
		labelsOf("a", "1", "a", ""),
		labelsOf("a", "1", "a", "1"),
		labelsOf("a", "1", "a", "1", "a", "1"),
		labelsOf("a", "1", "a", "2"),
		labelsOf("a", "1", "b", "2"),
		labelsOf("a", "1", "b", "2", "c", "3"),
		labelsOf("a", "1", "b", "3"),
		labelsOf("a", "1", "ba", "0"),
		labelsOf("a", "1", "c", "0"),
		labelsOf("a", "1\x00"),
		labelsOf("a", "10"),
		labelsOf("a", "2"),
		labelsOf("a", "2", "b", "1"),
		labelsOf("a", "\x7f"),
		labelsOf("a", "\x80"),
		labelsOf("a", "ä"),
		labelsOf("a", "\xff"),
		labelsOf("a\x00", "0"),
		labelsOf("aa", ""),
		labelsOf("b", "1"),
		labelsOf("b", "1", "a", "2"),
		labelsOf("b", "2", "a", "1"),
		labelsOf("b", "2", "a", "1", more, more),
		labelsOf("c", most),
		labelsOf("c", more),
		labelsOf(most, "2"),
		labelsOf(more, "1"),
		labelsOf("n", "", "", "a"),
		labelsOf("n", "", "a", ""),
		labelsOf("n", "a"),
		labelsOf("na", ""),
		labelsOf("\x7f", "9"),
		labelsOf("\x80", "5", "a", "1"),
		labelsOf("日", "4"),
		labelsOf("\xff", "3"),
		labelsOf("\xff\x00", "2"),
		labelsOf("\xff\xff", "1"),
	}
}

// Every two lists of the ladder are compared in both directions, and each one with a copy of itself.
func TestCompare(t *testing.T) {
	all := ladder()
	for i, a := range all {
		expectCompare(t, a, a, 0)
		expectCompare(t, a, slices.Clone(a), 0)
		for _, b := range all[i+1:] {
			expectCompare(t, a, b, -1)
		}
	}
}

func TestCompareOfExamples(t *testing.T) {
	expectCompare(t, labelsOf("a", "1"), labelsOf("a", "1", "b", "2"), -1)
	expectCompare(t, labelsOf("a", "2"), labelsOf("a", "1", "b", "2"), 1)
}

func TestCompareOfNoLabels(t *testing.T) {
	none := []api.Label{}
	expectCompare(t, nil, nil, 0)
	expectCompare(t, none, nil, 0)
	expectCompare(t, labelsOf("a", "1")[:0], none, 0)
	expectCompare(t, none, labelsOf("", ""), -1)
	expectCompare(t, nil, labelsOf("a", "1"), -1)
}

// The first labels that differ decide: by the name before the value, and before the number of labels.
func TestCompareOfFirstDifference(t *testing.T) {
	for i := range 50 {
		a, b := ascending(50), ascending(50)
		b[i].Value = "~"
		expectCompare(t, a, b, -1)
		expectCompare(t, a, b[:i+1], -1)
		a[i].Name, a[i].Value = "~", ""
		expectCompare(t, a, b, 1)
		expectCompare(t, a[:i+1], b, 1)
		for j := i + 1; j < 50; j++ {
			b[j] = api.Label{Name: "~~", Value: "~~"}
		}
		expectCompare(t, a, b, 1)
	}
}

// Each list is less than those of which it is a proper prefix.
func TestCompareOfPrefixes(t *testing.T) {
	for _, l := range append(sets()[:24], ladder()...) {
		for n := range l {
			expectCompare(t, l[:n], l, -1)
			expectCompare(t, l[:n], l[:n], 0)
		}
	}
}

// All pairs of lists of at most three labels.
func TestCompareOfAllShortLists(t *testing.T) {
	all := listsOf(3, []string{"", "a", "ab"}, []string{"", "\xff"})
	for _, a := range all {
		for _, b := range all {
			if got, want := Compare(a, b), referenceCompare(a, b); got != want {
				t.Fatalf("Compare of %q and %q returns %d, want %d", a, b, got, want)
			}
		}
	}
}

func TestCompareEqualsReference(t *testing.T) {
	source := rand.New(rand.NewSource(113))
	count := map[int]int{}
	for range 20000 {
		a := randomLabels(source, source.Intn(5))
		b := append(slices.Clone(a[:source.Intn(len(a)+1)]), randomLabels(source, source.Intn(3))...)
		want := referenceCompare(a, b)
		expectCompare(t, a, b, want)
		count[want]++
	}
	if count[-1] < 1000 || count[0] < 1000 || count[1] < 1000 {
		t.Errorf("the numbers of results are %v", count)
	}
}

// Labels behind the end of a list do not belong to it.
func TestCompareStaysWithinTheLists(t *testing.T) {
	a, b := labelsOf("a", "1", "b", "2", "c", "9"), labelsOf("a", "1", "b", "2", "c", "3")
	for n := range 3 {
		expectCompare(t, a[:n], b[:n], 0)
		expectCompare(t, a[:n], b[:n+1], -1)
	}
	expectCompare(t, a, b, 1)
	expectCompare(t, a[1:2], b[1:2], 0)
}

// P11.4

func TestGet(t *testing.T) {
	for _, l := range sets() {
		for _, x := range l {
			expectGet(t, l, x.Name, x.Value)
			expectNoValue(t, l, x.Name+"~")
			expectNoValue(t, l, "~"+x.Name)
		}
		expectNoValue(t, l, "")
		expectNoValue(t, l, more)
	}
}

func TestGetOfExamples(t *testing.T) {
	l := labelsOf("a", "1", "ab", "", "b", "a", "\xff", "\xff")
	expectGet(t, l, "a", "1")
	expectGet(t, l, "ab", "")
	expectGet(t, l, "b", "a")
	expectGet(t, l, "\xff", "\xff")
	for _, name := range []string{"", "1", "A", "a\x00", "aa", "abc", "\x00", "\xfe", "c", "\xff\xff", most, more} {
		expectNoValue(t, l, name)
	}
}

func TestGetOfNoLabels(t *testing.T) {
	for _, l := range [][]api.Label{nil, {}, labelsOf("a", "1")[:0]} {
		for _, name := range []string{"", "a", "1", "\x00", more} {
			expectNoValue(t, l, name)
		}
	}
}

// The first of several labels with the name counts, also if its value is empty, and in a list that is not sorted.
func TestGetOfEqualNames(t *testing.T) {
	expectGet(t, labelsOf("a", "1", "a", "2"), "a", "1")
	expectGet(t, labelsOf("a", "2", "a", "1"), "a", "2")
	expectGet(t, labelsOf("a", "", "a", "1"), "a", "")
	expectGet(t, labelsOf("b", "1", "a", "2", "b", "3", "a", "4"), "a", "2")
	expectGet(t, labelsOf("b", "1", "a", "2", "b", "3", "a", "4"), "b", "1")
	expectGet(t, labelsOf("c", "1", "b", "2", "a", "3"), "a", "3")
	expectGet(t, labelsOf("c", "1", "b", "2", "a", "3"), "c", "1")
	expectNoValue(t, labelsOf("c", "1", "a", "2", "a", "3"), "b")
}

func TestGetOfEmptyName(t *testing.T) {
	expectGet(t, labelsOf("", "1"), "", "1")
	expectGet(t, labelsOf("", ""), "", "")
	expectGet(t, labelsOf("a", "1", "", "2", "", "3"), "", "2")
	expectNoValue(t, labelsOf("a", ""), "")
}

func TestGetOfLongStrings(t *testing.T) {
	l := labelsOf(most, "1", more, "2", "n", more)
	expectGet(t, l, most, "1")
	expectGet(t, l, more, "2")
	expectGet(t, l, "n", more)
	expectNoValue(t, l, long(api.MaxString-1))
	expectNoValue(t, l, more+"m")
}

// Labels behind the end of a list do not belong to it.
func TestGetStaysWithinTheList(t *testing.T) {
	l := ascending(100)
	for n := range l {
		for i, x := range l {
			if i < n {
				expectGet(t, l[:n], x.Name, x.Value)
			} else {
				expectNoValue(t, l[:n], x.Name)
			}
		}
	}
}

func TestGetEqualsReference(t *testing.T) {
	source := rand.New(rand.NewSource(114))
	for range 20000 {
		l, name := randomLabels(source, source.Intn(9)), randomString(source)
		values := map[string]string{}
		for _, x := range slices.Backward(l) {
			values[x.Name] = x.Value
		}
		if want, ok := values[name]; ok {
			expectGet(t, l, name, want)
		} else {
			expectNoValue(t, l, name)
		}
	}
}

func TestStrings(t *testing.T) {
	expectStrings(t, nil)
	expectStrings(t, []api.Label{})
	expectStrings(t, labelsOf("a", "1")[:0])
	for _, want := range [][]string{
		{"a", "1"}, {"a", ""}, {"", "a"}, {"", ""}, {"a", "a"},
		{"a", "1", "b", "2"}, {"b", "2", "a", "1"},
		{"a", "b", "b", "a"},
		{"a", "a", "a", "a"}, {"a", "1", "a", "1"}, {"a", "1", "b", "1", "c", "1"}, {"", "", "", ""},
		{"z", "", "\xff", "\x00", "", "z", "z", "y", "z", ""},
		{most, more, more, most},
	} {
		expectStrings(t, labelsOf(want...), want...)
	}
}

func TestStringsOfManyLabels(t *testing.T) {
	for _, l := range append(sets(), ladder()...) {
		var want []string
		for _, x := range l {
			want = append(want, x.Name)
			want = append(want, x.Value)
		}
		expectStrings(t, l, want...)
		for n := range l {
			expectStrings(t, l[:n], want[:2*n]...)
		}
	}
}

func TestStringsSharesNoMemory(t *testing.T) {
	l := labelsOf("a", "1", "b", "2")
	one, two := Strings(l), Strings(l)
	clear(append(one, "x", "y"))
	clear(one)
	expectStrings(t, l, "a", "1", "b", "2")
	clear(l)
	if !slices.Equal(two, []string{"a", "1", "b", "2"}) {
		t.Errorf("the strings have become %q", two)
	}
}

// P11.5

// What Normalize returns is a label set, whatever the order of the labels, and stays as it is.
func TestNormalizeInAnyOrder(t *testing.T) {
	source := rand.New(rand.NewSource(115))
	for range 5000 {
		l := randomLabels(source, source.Intn(9))
		set, e := Normalize(l)
		expectCheck(t, set, api.OK)
		expectNormalize(t, set, set, api.OK)
		if e == api.ErrName || e == api.ErrLimit { // which of both is first depends on the order
			continue
		}
		source.Shuffle(len(l), func(i, j int) { l[i], l[j] = l[j], l[i] })
		expectNormalize(t, l, set, e)
	}
}

// Normalize accepts what Check accepts, and returns it.
func TestNormalizeKeepsSets(t *testing.T) {
	all := append(sets(), listsOf(3, []string{"", "a", "ab", "b", more}, []string{"", "1", more})...)
	for _, l := range all {
		if Check(l) == api.OK {
			expectNormalize(t, l, l, api.OK)
		}
	}
}

// Exactly one of three orders holds for each two lists, and it carries on over three lists in a row.
func TestCompareIsTotalOrder(t *testing.T) {
	all := append(ladder(), listsOf(2, []string{"", "a", "\x80"}, []string{"", "1"})...)
	for _, a := range all {
		for _, b := range all {
			ab := Compare(a, b)
			if ab != -Compare(b, a) || (ab == 0) != slices.Equal(a, b) {
				t.Fatalf("Compare of %s and %s returns %d and in the opposite order %d", shown(a), shown(b), ab, Compare(b, a))
			}
			for _, c := range all {
				if ab <= 0 && Compare(b, c) <= 0 && Compare(a, c) != min(ab, Compare(b, c)) {
					t.Fatalf("Compare is no order of %s, %s and %s", shown(a), shown(b), shown(c))
				}
			}
		}
	}
}

// P1, P2

func TestCallsAreIndependent(t *testing.T) {
	var group sync.WaitGroup
	for _, set := range sets() {
		group.Go(func() {
			for range 20 {
				l := slices.Clone(set)
				slices.Reverse(l)
				got, e := Normalize(l)
				if e != api.OK || Check(got) != api.OK || Compare(got, set) != 0 || len(Strings(got)) != 2*len(set) {
					t.Errorf("Normalize returns %s and %v, want %s", shown(got), e, shown(set))
				}
			}
		})
	}
	group.Wait()
}
