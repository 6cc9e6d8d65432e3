package model

import (
	"encoding/binary"
	"fmt"
	"math"
	"math/rand"
	"slices"
	"strings"
	"sync"
	"testing"

	"tsblock/api"
	"tsblock/labels"
	"tsblock/symbols"
)

const (
	least    = math.MinInt64
	greatest = math.MaxInt64
)

// long returns a string of n bytes.
func long(n int) string { return strings.Repeat("m", n) }

var (
	most = long(api.MaxString)
	more = long(api.MaxString + 1)
)

// labelsOf returns labels written as a=1, with blanks between them. The strings < and > stand for ones of api.MaxString and of one more byte.
func labelsOf(text string) []api.Label {
	var l []api.Label
	for _, field := range strings.Fields(text) {
		name, value, _ := strings.Cut(field, "=")
		l = append(l, api.Label{Name: stringOf(name), Value: stringOf(value)})
	}
	return l
}

func stringOf(s string) string {
	switch s {
	case "<":
		return most
	case ">":
		return more
	default:
		return s
	}
}

// series returns a series with labels and times. Its values are all different.
func series(text string, times ...int64) api.Series {
	s := api.Series{Labels: labelsOf(text)}
	for i, time := range times {
		s.Samples = append(s.Samples, api.Sample{T: time, V: uint64(time)*1000 + uint64(i)})
	}
	return s
}

// list returns a list of series.
func list(l ...api.Series) []api.Series { return l }

// blocks are blocks: ordinary ones, and those at the edges of the definition.
func blocks() [][]api.Series {
	return [][]api.Series{
		nil,
		{},
		list(series("", 0)),
		list(series("a=1", 5)),
		list(series("a=", least)),
		list(series("a=1", greatest)),
		list(series("a=1", least, greatest)),
		list(series("a=1", least, least+1, -1, 0, 1, greatest-1, greatest)),
		list(series("a=1 b=2 c=3", 100, 160, 220, 281)),
		list(series("", 1, 2), series("a=1", 1, 2)),
		list(series("", 2), series("a=", 1), series("a=1", 0)),
		list(series("a=1", 7), series("a=2", 7), series("b=1", 7)),
		list(series("a=1", 9), series("a=1 b=1", 8), series("a=1 b=1 c=1", 7), series("a=1 c=1", 6), series("a=2", 5)),
		list(series("a=10", 1), series("a=9", 1), series("aa=0", 1), series("b=", 1)),
		list(series("A=z", 1), series("a=Z", 1), series("a=z", 1), series("a=\x7f", 1), series("a=ä", 1), series("a=\xff", 1), series("\xff=\x01", 1)),
		list(series("a=<", 1), series("<=1", 1), series("<=<", 1)),
		list(api.Series{Labels: labelsOf("f=1"), Samples: []api.Sample{{T: 1, V: 0}, {T: 2, V: 1 << 63}, {T: 3, V: math.MaxUint64}, {T: 4, V: 0}}}),
		ascending(2),
		ascending(300),
	}
}

// ascending returns a block with n series, of 1 to 4 samples.
func ascending(n int) []api.Series {
	var b []api.Series
	for i := range n {
		s := series(fmt.Sprintf("job=node n=%06d", i))
		for j := range 1 + i%4 {
			s.Samples = append(s.Samples, api.Sample{T: int64(j*10 - i), V: uint64(i * j)})
		}
		b = append(b, s)
	}
	return b
}

// pool is a choice of series with and without errors, of which many have the same labels, at once or when they are sorted.
func pool() []api.Series {
	return []api.Series{
		series("", 5),
		series("a=1", 5),
		series("a=1", 7, 9),
		series("a=1 b=2", least, greatest),
		series("b=2 a=1", 1, 2),
		series("b=2", 3, 1, 2),
		series("a=1 a=2", 1),
		series("a=1 b=2 a=1", 1),
		series("a=1 =1", 1),
		series("b=1 => a=>", 1),
		series("a=>", 1),
		series("<=< >=", 1),
		series(""),
		series("a=1"),
		series("b=2 a=1"),
		series("=1"),
		series("a=1", 5, 5),
		series("a=1", 6, 5),
		series("a=1", 5, 6, 5),
		series("a=1", 5, 5, 4),
		series("a=1", 5, 4, 4),
		series("b=2 a=1", 2, 3, 3),
		series("c=1 c=1", 2, 2),
	}
}

// many returns n samples in ascending order.
func many(n int) []api.Sample {
	l := make([]api.Sample, n)
	for i := range l {
		l[i] = api.Sample{T: int64(i), V: uint64(i)}
	}
	return l
}

// crowd returns n series in ascending order, which share their samples.
func crowd(n int, samples []api.Sample) []api.Series {
	l := make([]api.Series, n)
	for i := range l {
		value := string(binary.BigEndian.AppendUint32(nil, uint32(i)))
		l[i] = api.Series{Labels: []api.Label{{Name: "n", Value: value}}, Samples: samples}
	}
	return l
}

// copied returns a list that shares no memory with l.
func copied(l []api.Series) []api.Series {
	var c []api.Series
	for _, s := range l {
		c = append(c, api.Series{Labels: append([]api.Label(nil), s.Labels...), Samples: append([]api.Sample(nil), s.Samples...)})
	}
	return c
}

// same compares two lists element by element.
func same(a, b []api.Series) bool {
	if len(a) != len(b) {
		return false
	}
	for i := range a {
		if len(a[i].Labels) != len(b[i].Labels) || len(a[i].Samples) != len(b[i].Samples) {
			return false
		}
		for j := range a[i].Labels {
			if a[i].Labels[j] != b[i].Labels[j] {
				return false
			}
		}
		for j := range a[i].Samples {
			if a[i].Samples[j] != b[i].Samples[j] {
				return false
			}
		}
	}
	return true
}

// overwrite changes every label and sample of l, and then every series.
func overwrite(l []api.Series) {
	for i := range l {
		for j := range l[i].Labels {
			l[i].Labels[j] = api.Label{Name: "overwritten", Value: "overwritten"}
		}
		for j := range l[i].Samples {
			l[i].Samples[j] = api.Sample{T: -77, V: 77}
		}
		l[i] = series("overwritten=1", 77)
	}
}

// firstOf returns the first of some errors, where api.OK is none.
func firstOf(errors []api.Errno) api.Errno {
	for _, e := range errors {
		if e != api.OK {
			return e
		}
	}
	return api.OK
}

// referenceLimit returns the errors that precede all others.
func referenceLimit(l []api.Series) []api.Errno {
	samples := 0
	for _, s := range l {
		samples += len(s.Samples)
	}
	if len(l) > 1048576 || samples > 16777216 {
		return []api.Errno{api.ErrLimit}
	}
	return nil
}

// referenceCheck lists all errors, and takes the first one.
func referenceCheck(b []api.Series) api.Errno {
	errors := referenceLimit(b)
	for i, s := range b {
		errors = append(errors, labels.Check(s.Labels))
		if len(s.Samples) == 0 {
			errors = append(errors, api.ErrEmpty)
		}
		for j, x := range s.Samples {
			if j > 0 && x.T == s.Samples[j-1].T {
				errors = append(errors, api.ErrTime)
			}
			if j > 0 && x.T < s.Samples[j-1].T {
				errors = append(errors, api.ErrOrder)
			}
		}
		if i > 0 && slices.Equal(s.Labels, b[i-1].Labels) {
			errors = append(errors, api.ErrSet)
		}
		if i > 0 && labels.Compare(s.Labels, b[i-1].Labels) == -1 {
			errors = append(errors, api.ErrOrder)
		}
	}
	return firstOf(errors)
}

// referenceNormalize looks at every pair of samples and of series, and puts each one behind all the lesser ones.
func referenceNormalize(l []api.Series) ([]api.Series, api.Errno) {
	errors := referenceLimit(l)
	var sorted []api.Series
	for _, s := range l {
		set, e := labels.Normalize(s.Labels)
		errors = append(errors, e)
		samples, e := referenceSamples(s.Samples)
		errors = append(errors, e)
		sorted = append(sorted, api.Series{Labels: set, Samples: samples})
	}
	b := make([]api.Series, len(l))
	for i, s := range sorted {
		place := 0
		for j, other := range sorted {
			if i != j && slices.Equal(s.Labels, other.Labels) {
				errors = append(errors, api.ErrSet)
			}
			if labels.Compare(other.Labels, s.Labels) == -1 {
				place++
			}
		}
		b[place] = s
	}
	if e := firstOf(errors); e != api.OK {
		return nil, e
	}
	return b, api.OK
}

func referenceSamples(l []api.Sample) ([]api.Sample, api.Errno) {
	if len(l) == 0 {
		return nil, api.ErrEmpty
	}
	e := api.OK
	sorted := make([]api.Sample, len(l))
	for i, x := range l {
		place := 0
		for j, other := range l {
			if i != j && x.T == other.T {
				e = api.ErrTime
			}
			if other.T < x.T {
				place++
			}
		}
		sorted[place] = x
	}
	return sorted, e
}

// orders returns the elements of l in every order.
func orders[T any](l []T) [][]T {
	if len(l) == 0 {
		return [][]T{nil}
	}
	var all [][]T
	for i, x := range l {
		for _, rest := range orders(slices.Delete(slices.Clone(l), i, i+1)) {
			all = append(all, append(rest, x))
		}
	}
	return all
}

// listsOf returns all lists of at most n of some series.
func listsOf(n int, choice []api.Series) [][]api.Series {
	all := [][]api.Series{nil}
	for from := 0; n > 0; n-- {
		shorter := all[from:]
		from = len(all)
		for _, l := range shorter {
			for _, s := range choice {
				all = append(all, append(slices.Clone(l), s))
			}
		}
	}
	return all
}

// randomSeries returns a series with few different labels and times, so that they are often equal.
func randomSeries(source *rand.Rand) api.Series {
	var s api.Series
	for range source.Intn(4) {
		x := api.Label{Name: string("abcd"[source.Intn(4)]), Value: string("12"[source.Intn(2)])}
		if source.Intn(50) == 0 {
			x.Name = ""
		}
		if source.Intn(50) == 0 {
			x.Value = more
		}
		s.Labels = append(s.Labels, x)
	}
	if source.Intn(3) > 0 {
		s.Labels, _ = labels.Normalize(s.Labels)
	}
	for range source.Intn(30) % 5 {
		s.Samples = append(s.Samples, api.Sample{T: source.Int63n(40) - 20, V: source.Uint64()})
	}
	if source.Intn(3) > 0 {
		slices.SortFunc(s.Samples, func(x, y api.Sample) int { return int(x.T - y.T) })
	}
	return s
}

// randomList returns series of which some are not as they are in a block.
func randomList(source *rand.Rand) []api.Series {
	var l []api.Series
	for range source.Intn(6) {
		l = append(l, randomSeries(source))
	}
	if source.Intn(3) > 0 {
		slices.SortFunc(l, func(x, y api.Series) int { return labels.Compare(x.Labels, y.Labels) })
	}
	return l
}

// quoted returns a string for a message.
func quoted(s string) string {
	if len(s) > 60 {
		return fmt.Sprintf("%q... (%d bytes)", s[:10], len(s))
	}
	return fmt.Sprintf("%q", s)
}

// shown returns series for a message.
func shown(l []api.Series) string {
	var parts []string
	for _, s := range l[:min(len(l), 8)] {
		for _, x := range s.Labels[:min(len(s.Labels), 8)] {
			parts = append(parts, quoted(x.Name)+"="+quoted(x.Value))
		}
		parts = append(parts, fmt.Sprint(s.Samples[:min(len(s.Samples), 8)]))
	}
	return fmt.Sprintf("%v (%d series)", parts, len(l))
}

// expectCheck checks all that Check does.
func expectCheck(t *testing.T, b []api.Series, want api.Errno) {
	t.Helper()
	kept := copied(b)
	if e := Check(b); e != want {
		t.Errorf("Check of %s returns %v, want %v", shown(b), e, want)
	}
	if !same(b, kept) {
		t.Errorf("Check has changed %s to %s", shown(kept), shown(b))
	}
}

// expectNormalize checks all that Normalize does.
func expectNormalize(t *testing.T, l, want []api.Series, wantError api.Errno) {
	t.Helper()
	kept := copied(l)
	got, e := Normalize(l)
	if e != wantError || !same(got, want) {
		t.Errorf("Normalize of %s returns %s and %v, want %s and %v", shown(l), shown(got), e, shown(want), wantError)
	}
	if !same(l, kept) {
		t.Errorf("Normalize has changed %s to %s", shown(kept), shown(l))
	}
}

// expectRefused checks that Normalize returns an error alone.
func expectRefused(t *testing.T, l []api.Series, want api.Errno) {
	t.Helper()
	expectNormalize(t, l, nil, want)
}

// expectEqual checks Equal in both directions.
func expectEqual(t *testing.T, a, b []api.Series, want bool) {
	t.Helper()
	keptA, keptB := copied(a), copied(b)
	if got := Equal(a, b); got != want {
		t.Errorf("Equal of %s and %s returns %v", shown(a), shown(b), got)
	}
	if got := Equal(b, a); got != want {
		t.Errorf("Equal of %s and %s returns %v", shown(b), shown(a), got)
	}
	if !same(a, keptA) || !same(b, keptB) {
		t.Errorf("Equal has changed %s and %s to %s and %s", shown(keptA), shown(keptB), shown(a), shown(b))
	}
}

// expectSamples checks all that Samples does.
func expectSamples(t *testing.T, b []api.Series, want int) {
	t.Helper()
	kept := copied(b)
	if got := Samples(b); got != want {
		t.Errorf("Samples of %s returns %d, want %d", shown(b), got, want)
	}
	if !same(b, kept) {
		t.Errorf("Samples has changed %s to %s", shown(kept), shown(b))
	}
}

// expectSymbols checks all that Symbols does.
func expectSymbols(t *testing.T, b []api.Series, want ...string) {
	t.Helper()
	kept := copied(b)
	if got := Symbols(b); !slices.Equal(got, want) {
		t.Errorf("Symbols of %s returns %d strings: %.200q, want %d: %.200q", shown(b), len(got), got, len(want), want)
	}
	if !same(b, kept) {
		t.Errorf("Symbols has changed %s to %s", shown(kept), shown(b))
	}
}

// P12.1

func TestCheckAcceptsBlocks(t *testing.T) {
	for _, b := range blocks() {
		expectCheck(t, b, api.OK)
	}
}

func TestCheckOfLabels(t *testing.T) {
	for text, want := range map[string]api.Errno{
		"=": api.ErrName, "=1": api.ErrName, "=>": api.ErrName, "a=1 =2": api.ErrName,
		">=": api.ErrLimit, "a=>": api.ErrLimit, ">=>": api.ErrLimit, "a=1 b=>": api.ErrLimit, "a=1 a=>": api.ErrLimit,
		"a=1 a=1": api.ErrDuplicate, "a=1 a=2": api.ErrDuplicate, "a=2 a=1": api.ErrDuplicate, "a=1 b=1 b=2": api.ErrDuplicate,
		"b=1 a=2": api.ErrOrder, "a=1 b=2 a=1": api.ErrOrder, "a=1 A=2": api.ErrOrder,
	} {
		expectCheck(t, list(series(text, 1)), want)
		expectCheck(t, list(series("", 1), series(text, 1)), want)
		expectCheck(t, list(series(text, 1), series("z=", 1)), want)
		expectCheck(t, list(series("a=0", 1), series(text, 1), series("z=", 1)), want)
	}
}

func TestCheckOfNoSamples(t *testing.T) {
	expectCheck(t, list(series("")), api.ErrEmpty)
	expectCheck(t, list(series("a=1")), api.ErrEmpty)
	expectCheck(t, list(api.Series{Labels: labelsOf("a=1"), Samples: []api.Sample{}}), api.ErrEmpty)
	expectCheck(t, list(api.Series{Samples: many(1)[:0]}), api.ErrEmpty)
	expectCheck(t, list(api.Series{}), api.ErrEmpty)
	for i := range 3 {
		b := list(series("a=1", 1), series("b=1", 1, 2), series("c=1", 1, 2, 3))
		b[i].Samples = nil
		expectCheck(t, b, api.ErrEmpty)
	}
}

func TestCheckOfTimes(t *testing.T) {
	for _, c := range []struct {
		want  api.Errno
		times []int64
	}{
		{api.OK, []int64{0, 1}},
		{api.OK, []int64{-1, 0}},
		{api.OK, []int64{-2, -1, 0, 1, 2}},
		{api.OK, []int64{least, greatest}},
		{api.OK, []int64{least, 0, greatest}},
		{api.OK, []int64{greatest - 1, greatest}},
		{api.OK, []int64{least, least + 1}},
		{api.ErrTime, []int64{0, 0}},
		{api.ErrTime, []int64{-5, -5}},
		{api.ErrTime, []int64{least, least}},
		{api.ErrTime, []int64{greatest, greatest}},
		{api.ErrTime, []int64{1, 2, 2}},
		{api.ErrTime, []int64{1, 1, 2}},
		{api.ErrTime, []int64{1, 2, 2, 3}},
		{api.ErrTime, []int64{1, 1, 1}},
		{api.ErrTime, []int64{2, 2, 1}},
		{api.ErrOrder, []int64{1, 0}},
		{api.ErrOrder, []int64{0, -1}},
		{api.ErrOrder, []int64{greatest, least}},
		{api.ErrOrder, []int64{least + 1, least}},
		{api.ErrOrder, []int64{greatest, greatest - 1}},
		{api.ErrOrder, []int64{1, 3, 2}},
		{api.ErrOrder, []int64{2, 1, 3}},
		{api.ErrOrder, []int64{1, 2, 1}},
		{api.ErrOrder, []int64{3, 1, 1}},
		{api.ErrOrder, []int64{0, greatest, least, least}},
		{api.ErrOrder, []int64{1, 2, 3, 4, 5, 6, 7, 8, 9, 1}},
	} {
		expectCheck(t, list(series("b=1", c.times...)), c.want)
		expectCheck(t, list(series("a=1", 7, 8), series("b=1", c.times...)), c.want)
		expectCheck(t, list(series("b=1", c.times...), series("c=1", 7, 8)), c.want)
	}
}

// Only the times count, not the values, and only those within one series.
func TestCheckOfValues(t *testing.T) {
	expectCheck(t, list(api.Series{Samples: []api.Sample{{T: 1, V: 9}, {T: 2, V: 9}, {T: 3, V: 0}}}), api.OK)
	expectCheck(t, list(api.Series{Samples: []api.Sample{{T: 1, V: 9}, {T: 1, V: 10}}}), api.ErrTime)
	expectCheck(t, list(api.Series{Samples: []api.Sample{{T: 2, V: 9}, {T: 1, V: 10}}}), api.ErrOrder)
	expectCheck(t, list(series("a=1", 5, 6), series("b=1", 6, 7), series("c=1", 1, 5)), api.OK)
}

// Two wrong times far apart in a long series: the first one counts.
func TestCheckOfTimesFarApart(t *testing.T) {
	for _, i := range []int{1, 2, 500, 997, 998} {
		for _, k := range []int{i + 1, 999} {
			s := series("a=1")
			s.Samples = many(1000)
			s.Samples[k].T = s.Samples[k-1].T
			expectCheck(t, list(s), api.ErrTime)
			s.Samples[i].T = -1
			expectCheck(t, list(s), api.ErrOrder)
			s.Samples[i].T, s.Samples[k].T = s.Samples[i-1].T, -1
			expectCheck(t, list(s), api.ErrTime)
			s.Samples[i].T = int64(i)
			expectCheck(t, list(s), api.ErrOrder)
		}
	}
}

func TestCheckOfLabelSets(t *testing.T) {
	for _, c := range []struct {
		want   api.Errno
		before string
		after  string
	}{
		{api.OK, "", "a="},
		{api.OK, "a=1", "a=2"},
		{api.OK, "a=1", "a=1 b="},
		{api.OK, "a=2 b=1", "b=1"},
		{api.OK, "a=1", "a=ä"},
		{api.ErrSet, "", ""},
		{api.ErrSet, "a=1", "a=1"},
		{api.ErrSet, "a=1 b=2", "a=1 b=2"},
		{api.ErrSet, "<=<", "<=<"},
		{api.ErrOrder, "a=", ""},
		{api.ErrOrder, "a=2", "a=1"},
		{api.ErrOrder, "b=1", "a=2"},
		{api.ErrOrder, "a=1 b=2", "a=1"},
		{api.ErrOrder, "a=1 b=2", "a=1 b=1"},
		{api.ErrOrder, "a=1 c=1", "a=1 b=2"},
		{api.ErrOrder, "a=10", "a=1"},
		{api.ErrOrder, "a=9", "a=10"},
		{api.ErrOrder, "a=\xff", "a=z"},
	} {
		expectCheck(t, list(series(c.before, 1), series(c.after, 2)), c.want)
		expectCheck(t, list(series(c.before, 2), series(c.after, 1)), c.want)
		expectCheck(t, list(series(c.before, 3, 4), series(c.after, 3, 4), series("z=", 3, 4)), c.want)
		if c.before != "" {
			expectCheck(t, list(series("", 3), series(c.before, 3), series(c.after, 4), series("z=", 3)), c.want)
		}
	}
}

// Equal labels that are not next to each other are out of order.
func TestCheckOfLabelSetsFarApart(t *testing.T) {
	expectCheck(t, list(series("a=1", 1), series("b=1", 1), series("a=1", 1)), api.ErrOrder)
	expectCheck(t, list(series("a=1", 1), series("b=1", 1), series("b=1", 1), series("a=1", 1)), api.ErrSet)
	expectCheck(t, list(series("b=1", 1), series("a=1", 1), series("a=1", 1)), api.ErrOrder)
	for i := 1; i < 300; i += 23 {
		b := ascending(300)
		b[i].Labels = b[i-1].Labels
		expectCheck(t, b, api.ErrSet)
		b[i].Labels = b[0].Labels[:1]
		expectCheck(t, b, api.ErrOrder)
	}
}

// The errors of one series, in the order in which they count.
func TestCheckOfSeveralErrorsInOneSeries(t *testing.T) {
	for _, c := range []struct {
		want   api.Errno
		before api.Series
		s      api.Series
	}{
		{api.ErrName, series("a=1", 1), series("=1")},
		{api.ErrLimit, series("a=1", 1), series(">=1")},
		{api.ErrDuplicate, series("a=1", 1), series("b=1 b=1")},
		{api.ErrName, series("a=1", 1), series("=1", 1, 1)},
		{api.ErrDuplicate, series("a=1", 1), series("a=1 a=1", 2, 1)},
		{api.ErrLimit, series("b=1", 1), series("a=>", 2)},
		{api.ErrDuplicate, series("b=1", 1), series("a=1 a=1", 2)},
		{api.ErrOrder, series("a=1", 1), series("c=1 b=1")},
		{api.ErrOrder, series("a=1", 1), series("c=1 b=1", 1, 1)},
		{api.ErrEmpty, series("a=1", 1), series("a=1")},
		{api.ErrEmpty, series("b=1", 1), series("a=1")},
		{api.ErrTime, series("b=1", 1), series("a=1", 1, 1)},
		{api.ErrTime, series("b=1", 1), series("b=1", 1, 1)},
		{api.ErrOrder, series("b=1", 1), series("b=1", 2, 1)},
		{api.ErrOrder, series("b=1", 1), series("b=1", 2, 1, 1)},
		{api.ErrTime, series("b=1", 1), series("b=1", 2, 2, 1)},
	} {
		expectCheck(t, list(c.before, c.s), c.want)
		expectCheck(t, list(c.before, c.s, series("z=1")), c.want)
	}
}

// The errors of different series: those of the first series count, whatever they are.
func TestCheckOfSeveralErrorsInDifferentSeries(t *testing.T) {
	faulty := []struct {
		want api.Errno
		s    api.Series
	}{
		{api.ErrName, series("=1", 1)},
		{api.ErrLimit, series("a=>", 1)},
		{api.ErrDuplicate, series("a=1 a=2", 1)},
		{api.ErrOrder, series("b=1 a=1", 1)},
		{api.ErrEmpty, series("m=1")},
		{api.ErrTime, series("m=1", 1, 1)},
		{api.ErrOrder, series("m=1", 2, 1)},
		{api.ErrSet, series("0=1", 1)},
		{api.ErrOrder, series("", 1)},
	}
	for _, first := range faulty {
		for _, second := range faulty {
			expectCheck(t, list(series("0=1", 1), first.s, second.s), first.want)
			expectCheck(t, list(series("0=1", 1), first.s, series("n=1", 1), second.s), first.want)
		}
	}
}

func TestCheckOfSeriesBeyondTheLimit(t *testing.T) {
	l := crowd(api.MaxSeries+1, many(1))
	if e := Check(l[:api.MaxSeries]); e != api.OK {
		t.Errorf("Check of MaxSeries series returns %v", e)
	}
	if e := Check(l); e != api.ErrLimit {
		t.Errorf("Check of one series more returns %v", e)
	}
	if e := Check(make([]api.Series, api.MaxSeries+1)); e != api.ErrLimit {
		t.Errorf("Check of too many empty series returns %v", e)
	}
	if e := Check(make([]api.Series, api.MaxSeries)); e != api.ErrEmpty {
		t.Errorf("Check of MaxSeries empty series returns %v", e)
	}
	l[api.MaxSeries-1].Labels = l[api.MaxSeries-2].Labels
	if e := Check(l[:api.MaxSeries]); e != api.ErrSet {
		t.Errorf("Check of MaxSeries series, the last two of which have the same labels, returns %v", e)
	}
}

// limits are lists with api.MaxSamples samples, and with one more, in one series and spread over several.
func limits() (atLimit, beyond map[string][]api.Series) {
	l := many(api.MaxSamples + 1)
	full, spread := crowd(16, l[:api.MaxSamples/16]), crowd(api.MaxSeries, l[:16])
	withLast := func(last int) []api.Series {
		return append(crowd(15, l[:api.MaxSamples/16]), api.Series{Labels: labelsOf("z=1"), Samples: l[:last]})
	}
	onFirst := slices.Clone(spread)
	onFirst[0].Samples = l[:17]
	atLimit = map[string][]api.Series{
		"one series":     {{Samples: l[:api.MaxSamples]}},
		"two series":     {{Samples: l[:api.MaxSamples-1]}, series("a=1", 1)},
		"16 series":      full,
		"a greater last": withLast(api.MaxSamples / 16),
		"MaxSeries":      spread,
	}
	beyond = map[string][]api.Series{
		"one series":     {{Samples: l}},
		"two series":     {{Samples: l[:api.MaxSamples]}, series("a=1", 1)},
		"first small":    {series("", 1), {Labels: labelsOf("a=1"), Samples: l[:api.MaxSamples]}},
		"17 series":      append(slices.Clone(full), series("z=1", 1)),
		"a greater last": withLast(api.MaxSamples/16 + 1),
		"MaxSeries":      onFirst,
		"far beyond":     crowd(1000, l),
		"other errors":   {series("=1"), series("=1", 2, 2), {Samples: l[:api.MaxSamples]}},
		"last errors":    {{Samples: l}, series("=1", 2, 2), series("")},
	}
	return atLimit, beyond
}

func TestLimitOfSamples(t *testing.T) {
	atLimit, beyond := limits()
	for name, b := range atLimit {
		if n, e := Samples(b), Check(b); n != api.MaxSamples || e != api.OK {
			t.Errorf("%s: Samples returns %d and Check %v", name, n, e)
		}
		if got, e := Normalize(b); e != api.OK || !same(got, b) {
			t.Errorf("%s: Normalize returns %d series and %v", name, len(got), e)
		}
	}
	for name, l := range beyond {
		if n, e := Samples(l), Check(l); n <= api.MaxSamples || e != api.ErrLimit {
			t.Errorf("%s: Samples returns %d and Check %v", name, n, e)
		}
		if got, e := Normalize(l); e != api.ErrLimit || len(got) != 0 {
			t.Errorf("%s: Normalize returns %d series and %v", name, len(got), e)
		}
	}
}

// All lists of at most three series, and random ones, with and without errors.
func TestCheckEqualsReference(t *testing.T) {
	for _, b := range listsOf(3, pool()) {
		expectCheck(t, b, referenceCheck(b))
	}
	source := rand.New(rand.NewSource(121))
	count := map[api.Errno]int{}
	for range 30000 {
		b := randomList(source)
		want := referenceCheck(b)
		expectCheck(t, b, want)
		count[want]++
	}
	if len(count) != 8 || count[api.OK] < 1000 || count[api.ErrSet] < 1000 || count[api.ErrTime] < 1000 {
		t.Errorf("the numbers of errors are %v", count)
	}
}

// Series, labels and samples behind the end of a list do not belong to it.
func TestCheckStaysWithinTheLists(t *testing.T) {
	b := list(series("a=1", 1, 2), series("b=1", 1), series("c=1 c=2", 1), series("=1"))
	expectCheck(t, b[:0], api.OK)
	expectCheck(t, b[:2], api.OK)
	expectCheck(t, b[:3], api.ErrDuplicate)
	expectCheck(t, b[3:], api.ErrName)
	b[2].Labels = b[2].Labels[:1]
	expectCheck(t, b[:3], api.OK)
	s := series("a=1", 1, 2, 2)
	s.Samples = s.Samples[:2]
	expectCheck(t, list(s), api.OK)
}

// P12.2

func TestNormalizeOfExamples(t *testing.T) {
	expectRefused(t, list(series("a=1")), api.ErrEmpty)
	expectRefused(t, list(series("a=1 b=2", 1), series("b=2 a=1", 2)), api.ErrSet)
	expectNormalize(t, list(
		api.Series{Labels: labelsOf("b=2 a=1"), Samples: []api.Sample{{T: 30, V: 1}, {T: -10, V: 2}, {T: 20, V: 3}}},
		api.Series{Labels: labelsOf("c=1 a=1"), Samples: []api.Sample{{T: 5, V: 4}}},
		api.Series{Samples: []api.Sample{{T: greatest, V: 5}, {T: least, V: 6}}},
		api.Series{Labels: labelsOf("a=1"), Samples: []api.Sample{{T: 1, V: 8}, {T: 0, V: 8}}},
	), list(
		api.Series{Samples: []api.Sample{{T: least, V: 6}, {T: greatest, V: 5}}},
		api.Series{Labels: labelsOf("a=1"), Samples: []api.Sample{{T: 0, V: 8}, {T: 1, V: 8}}},
		api.Series{Labels: labelsOf("a=1 b=2"), Samples: []api.Sample{{T: -10, V: 2}, {T: 20, V: 3}, {T: 30, V: 1}}},
		api.Series{Labels: labelsOf("a=1 c=1"), Samples: []api.Sample{{T: 5, V: 4}}},
	), api.OK)
}

func TestNormalizeKeepsBlocks(t *testing.T) {
	for _, b := range blocks() {
		expectNormalize(t, b, b, api.OK)
	}
	for _, b := range listsOf(3, pool()) {
		if Check(b) == api.OK {
			expectNormalize(t, b, b, api.OK)
		}
	}
}

func TestNormalizeOfLabels(t *testing.T) {
	for text, want := range map[string]api.Errno{
		"=": api.ErrName, "=1": api.ErrName, "=>": api.ErrName, "b=1 a=2 =3": api.ErrName, "=1 a=>": api.ErrName,
		">=": api.ErrLimit, "a=>": api.ErrLimit, "b=1 a=>": api.ErrLimit, "a=1 a=>": api.ErrLimit, "a=> =1": api.ErrLimit,
		"a=1 a=1": api.ErrDuplicate, "a=2 a=1": api.ErrDuplicate, "a=1 b=2 a=3": api.ErrDuplicate, "c=1 b=1 a=1 b=1": api.ErrDuplicate,
	} {
		expectRefused(t, list(series(text, 1)), want)
		expectRefused(t, list(series("z=1", 2, 1), series(text, 1)), want)
		expectRefused(t, list(series(text, 1), series("", 1)), want)
		expectRefused(t, list(series("a=0", 1), series(text, 1), series("a=", 1)), want)
	}
}

func TestNormalizeOfNoSamples(t *testing.T) {
	expectRefused(t, list(series("")), api.ErrEmpty)
	expectRefused(t, list(api.Series{Labels: labelsOf("b=1 a=1"), Samples: []api.Sample{}}), api.ErrEmpty)
	expectRefused(t, list(api.Series{Samples: many(1)[:0]}), api.ErrEmpty)
	for i := range 3 {
		l := list(series("c=1", 1), series("b=1", 2, 1), series("a=1", 1, 2, 3))
		l[i].Samples = nil
		expectRefused(t, l, api.ErrEmpty)
	}
}

func TestNormalizeOfEqualTimes(t *testing.T) {
	for _, times := range [][]int64{
		{0, 0}, {-5, -5}, {least, least}, {greatest, greatest}, {1, 1, 1},
		{1, 2, 1}, {2, 1, 2}, {1, 2, 2}, {2, 2, 1}, {3, 1, 2, 3}, {least, greatest, 0, least}, {1, 9, 2, 8, 3, 7, 4, 6, 5, 1},
	} {
		expectRefused(t, list(series("b=1", times...)), api.ErrTime)
		expectRefused(t, list(series("c=1", 2, 1), series("b=1", times...)), api.ErrTime)
		expectRefused(t, list(series("b=1", times...), series("a=1", 2, 1)), api.ErrTime)
	}
	sameValue := api.Series{Samples: []api.Sample{{T: 4, V: 4}, {T: 3, V: 3}, {T: 4, V: 4}}}
	expectRefused(t, list(sameValue), api.ErrTime)
}

func TestNormalizeOfEqualSets(t *testing.T) {
	for _, l := range [][]api.Series{
		{series("", 1), series("", 2)},
		{series("a=1", 1), series("a=1", 1)},
		{series("a=1", 1), series("b=1", 2), series("a=1", 3)},
		{series("b=1", 1), series("a=1", 2), series("b=1", 3)},
		{series("a=1 b=2", 1), series("b=2 a=1", 2)},
		{series("a=1 b=2 c=3", 1), series("c=3 a=1 b=2", 2), series("b=2 c=3 a=1", 3)},
		{series("b=2 a=1", 1), series("a=1", 2), series("", 3), series("b=2 a=1", 4)},
		{series("<=<", 1), series("<=", 1), series("<=<", 1)},
	} {
		for _, other := range orders(l) {
			expectRefused(t, other, api.ErrSet)
		}
	}
	expectNormalize(t, list(series("b=1 a=2", 1), series("b=2 a=1", 1)), list(series("a=1 b=2", 1), series("a=2 b=1", 1)), api.OK)
}

// Two series with the same labels beside a series with another error, wherever it is: the other error counts.
func TestNormalizeOfEqualSetsAndOtherErrors(t *testing.T) {
	for _, c := range []struct {
		want api.Errno
		s    api.Series
	}{
		{api.ErrName, series("=1", 1)},
		{api.ErrLimit, series("a=>", 1)},
		{api.ErrDuplicate, series("a=1 b=1 a=1", 1)},
		{api.ErrEmpty, series("a=1 b=2")},
		{api.ErrEmpty, series("z=1")},
		{api.ErrTime, series("b=2 a=1", 1, 2, 1)},
		{api.ErrTime, series("z=1", 5, 5)},
	} {
		for _, l := range orders(list(series("a=1 b=2", 1), series("b=2 a=1", 2), series("c=1", 1), c.s)) {
			expectRefused(t, l, c.want)
		}
	}
}

// The errors of one series, in the order in which they count.
func TestNormalizeOfSeveralErrorsInOneSeries(t *testing.T) {
	expectRefused(t, list(series("=1")), api.ErrName)
	expectRefused(t, list(series(">=1")), api.ErrLimit)
	expectRefused(t, list(series("a=1 a=1")), api.ErrDuplicate)
	expectRefused(t, list(series("=1", 1, 1)), api.ErrName)
	expectRefused(t, list(series("a=>", 1, 1)), api.ErrLimit)
	expectRefused(t, list(series("a=1 b=1 a=1", 1, 2, 1)), api.ErrDuplicate)
}

// The errors of different series: those of the first series in l count, whatever they are and whatever its labels.
func TestNormalizeOfSeveralErrorsInDifferentSeries(t *testing.T) {
	faulty := []struct {
		want api.Errno
		s    api.Series
	}{
		{api.ErrName, series("z=1 =1", 1)},
		{api.ErrLimit, series("a=1 >=", 1)},
		{api.ErrDuplicate, series("m=1 b=1 m=2", 1)},
		{api.ErrEmpty, series("y=1")},
		{api.ErrEmpty, series("")},
		{api.ErrTime, series("x=1", 3, 1, 3)},
		{api.ErrTime, series("a=1", 1, 1)},
	}
	for _, first := range faulty {
		for _, second := range faulty {
			expectRefused(t, list(first.s, second.s), first.want)
			expectRefused(t, list(series("c=1", 2, 1), first.s, series("b=1", 1), second.s, series("b=1", 1)), first.want)
		}
	}
}

// The series, the labels and the samples of a small block in every order give that block.
func TestNormalizeOfEveryOrder(t *testing.T) {
	want := list(series("a=1 b=2 c=3", -3, 0, 4), series("a=1 b=3", 1, 2), series("a=2", 7), series("b=1 c=1", least, greatest))
	for _, set := range orders(want[0].Labels) {
		for _, samples := range orders(want[0].Samples) {
			l := copied(want)
			l[0] = api.Series{Labels: set, Samples: samples}
			slices.Reverse(l[3].Labels)
			slices.Reverse(l[3].Samples)
			for _, other := range orders(l) {
				expectNormalize(t, other, want, api.OK)
			}
		}
	}
}

func TestNormalizeOfManySamples(t *testing.T) {
	source := rand.New(rand.NewSource(122))
	for _, n := range []int{1, 2, 11, 12, 13, 50, 51, 1000, 100000} {
		s := api.Series{Samples: many(n)}
		want := list(s)
		for range 3 {
			l := copied(want)
			source.Shuffle(n, func(i, j int) { l[0].Samples[i], l[0].Samples[j] = l[0].Samples[j], l[0].Samples[i] })
			expectNormalize(t, l, want, api.OK)
			if n > 1 {
				l[0].Samples[source.Intn(n-1)] = l[0].Samples[n-1]
				expectRefused(t, l, api.ErrTime)
			}
		}
	}
}

func TestNormalizeOfManySeries(t *testing.T) {
	source := rand.New(rand.NewSource(123))
	for _, n := range []int{2, 11, 12, 13, 50, 51, 1000, 20000} {
		want := ascending(n)
		l := copied(want)
		source.Shuffle(n, func(i, j int) { l[i], l[j] = l[j], l[i] })
		for _, s := range l {
			slices.Reverse(s.Labels)
			slices.Reverse(s.Samples)
		}
		expectNormalize(t, l, want, api.OK)
		l[source.Intn(n-1)].Labels = want[n-1].Labels
		l[n-1].Labels = want[n-1].Labels
		expectRefused(t, l, api.ErrSet)
	}
}

func TestNormalizeOfSeriesBeyondTheLimit(t *testing.T) {
	l := crowd(api.MaxSeries+1, many(1))
	want := slices.Clone(l[:api.MaxSeries])
	if got, e := Normalize(l); e != api.ErrLimit || len(got) != 0 {
		t.Errorf("Normalize of too many series returns %d series and %v", len(got), e)
	}
	l = l[:api.MaxSeries]
	slices.Reverse(l)
	if got, e := Normalize(l); e != api.OK || !same(got, want) {
		t.Errorf("Normalize of MaxSeries series returns %d series and %v", len(got), e)
	}
	l[0].Labels = l[api.MaxSeries-1].Labels
	if got, e := Normalize(l); e != api.ErrSet || len(got) != 0 {
		t.Errorf("Normalize of MaxSeries series, two of which have the same labels, returns %d series and %v", len(got), e)
	}
	if got, e := Normalize(make([]api.Series, api.MaxSeries+1)); e != api.ErrLimit || len(got) != 0 {
		t.Errorf("Normalize of too many empty series returns %d series and %v", len(got), e)
	}
}

func TestNormalizeEqualsReference(t *testing.T) {
	for _, l := range listsOf(3, pool()) {
		want, e := referenceNormalize(l)
		expectNormalize(t, l, want, e)
	}
	source := rand.New(rand.NewSource(124))
	count := map[api.Errno]int{}
	for range 30000 {
		l := randomList(source)
		want, e := referenceNormalize(l)
		expectNormalize(t, l, want, e)
		count[e]++
	}
	if len(count) != 7 || count[api.OK] < 1000 || count[api.ErrSet] < 1000 || count[api.ErrTime] < 1000 {
		t.Errorf("the numbers of errors are %v", count)
	}
}

// A change of the result changes nothing in l, and a change of l nothing in the result.
func TestNormalizeSharesNoMemory(t *testing.T) {
	for _, b := range blocks() {
		kept := copied(b)
		one, _ := Normalize(b)
		two, _ := Normalize(b)
		overwrite(one)
		if !same(b, kept) || !same(two, kept) {
			t.Errorf("with the result, %s has become %s, and another result %s", shown(kept), shown(b), shown(two))
		}
		overwrite(b)
		if !same(two, kept) {
			t.Errorf("with the series, the result %s has become %s", shown(kept), shown(two))
		}
	}
}

// The series of a result share no memory with each other, even if those of l do.
func TestNormalizeSharesNoMemoryWithinTheResult(t *testing.T) {
	set, samples := labelsOf("a=1 b=2 c=3"), series("", 1, 2, 3, 4).Samples
	l := list(api.Series{Labels: set[:1], Samples: samples[1:3]}, api.Series{Labels: set[:2], Samples: samples[:2]}, api.Series{Labels: set, Samples: samples})
	expectSeparate(t, l, func() []api.Series {
		b, _ := Normalize(l)
		return b
	})
}

// expectSeparate checks that the series that a function returns are equal to those of want, and separate from each other and from those behind the end of each list.
func expectSeparate(t *testing.T, want []api.Series, call func() []api.Series) {
	t.Helper()
	kept := copied(want)
	for i := range kept {
		got := call()
		clear(append(got[i].Labels, labelsOf("x=1 y=2 z=3")...))
		clear(append(got[i].Samples, many(4)...))
		overwrite(got[i : i+1])
		got[i] = kept[i]
		if !same(got, kept) {
			t.Errorf("with series %d, %s has become %s", i, shown(kept), shown(got))
		}
		if !same(want, kept) {
			t.Errorf("with series %d of the result, %s has become %s", i, shown(kept), shown(want))
		}
	}
}

func TestNormalizeStaysWithinTheLists(t *testing.T) {
	l := list(series("b=1 a=1 a=2", 2, 1, 1), series("a=2", 1), series("=1"))
	l[0].Labels, l[0].Samples = l[0].Labels[:2], l[0].Samples[:2]
	kept := copied(l)
	got, e := Normalize(l[:2])
	if e != api.OK || len(got) != 2 || len(got[0].Labels) != 2 || len(got[0].Samples) != 2 || !same(l, kept) {
		t.Errorf("Normalize returns %s and %v", shown(got), e)
	}
	if behind := l[0].Samples[:3][2]; behind.T != 1 || l[0].Labels[:3][2].Value != "2" {
		t.Errorf("Normalize has changed what lies behind the end to %v", behind)
	}
}

// P12.3

// variants are lists that differ from each other, most of them in one place alone.
func variants() [][]api.Series {
	base := list(series("a=1 b=2", 10, 20), series("c=3", 10, 30, 50), series("d=4", 7))
	all := [][]api.Series{nil, base, base[:1], base[:2], base[1:], append(copied(base), series("e=5", 1)), append(copied(base), base[2])}
	change := func(do func(l []api.Series)) {
		l := copied(base)
		do(l)
		all = append(all, l)
	}
	for i := range base {
		change(func(l []api.Series) { l[i].Labels = nil })
		change(func(l []api.Series) { l[i].Samples = nil })
		change(func(l []api.Series) { l[i] = api.Series{} })
		change(func(l []api.Series) { l[i].Labels = append(l[i].Labels, api.Label{}) })
		change(func(l []api.Series) { l[i].Samples = append(l[i].Samples, api.Sample{}) })
		for j := range base[i].Labels {
			change(func(l []api.Series) { l[i].Labels[j].Name += "x" })
			change(func(l []api.Series) { l[i].Labels[j].Name = "" })
			change(func(l []api.Series) { l[i].Labels[j].Value += "x" })
			change(func(l []api.Series) { l[i].Labels[j].Value = "" })
			change(func(l []api.Series) {
				l[i].Labels[j].Name, l[i].Labels[j].Value = l[i].Labels[j].Value, l[i].Labels[j].Name
			})
			change(func(l []api.Series) { l[i].Labels[j] = api.Label{Name: l[i].Labels[j].Name + l[i].Labels[j].Value} })
		}
		for j := range base[i].Samples {
			for _, bit := range []int{0, 1, 31, 32, 62, 63} {
				change(func(l []api.Series) { l[i].Samples[j].V ^= 1 << bit })
				change(func(l []api.Series) { l[i].Samples[j].T ^= 1 << bit })
			}
			change(func(l []api.Series) {
				l[i].Samples[j].T, l[i].Samples[j].V = int64(l[i].Samples[j].V), uint64(l[i].Samples[j].T)
			})
		}
	}
	change(func(l []api.Series) { l[0].Labels = l[0].Labels[:1] })
	change(func(l []api.Series) { l[0].Labels = l[0].Labels[1:] })
	change(func(l []api.Series) { slices.Reverse(l[0].Labels) })
	change(func(l []api.Series) { l[1].Samples = l[1].Samples[:2] })
	change(func(l []api.Series) { l[1].Samples = l[1].Samples[1:] })
	change(func(l []api.Series) { slices.Reverse(l[1].Samples) })
	change(func(l []api.Series) { l[0], l[1] = l[1], l[0] })
	change(func(l []api.Series) { l[1], l[2] = l[2], l[1] })
	change(func(l []api.Series) { l[0], l[2] = l[2], l[0] })
	change(func(l []api.Series) { l[0].Labels, l[1].Labels = l[1].Labels, l[0].Labels })
	change(func(l []api.Series) { l[0].Samples, l[1].Samples = l[1].Samples, l[0].Samples })
	change(func(l []api.Series) {
		l[1].Labels, l[0].Labels = append(l[0].Labels[1:], l[1].Labels...), l[0].Labels[:1]
	})
	change(func(l []api.Series) {
		l[0].Samples, l[1].Samples = append(l[0].Samples, l[1].Samples[0]), l[1].Samples[1:]
	})
	return all
}

func TestEqualOfVariants(t *testing.T) {
	all := variants()
	for i, a := range all {
		for j, b := range all {
			expectEqual(t, a, copied(b), i == j)
		}
		expectEqual(t, a, a, true)
	}
}

func TestEqualOfBlocks(t *testing.T) {
	all := blocks()[1:]
	for i, a := range all {
		for j, b := range all {
			expectEqual(t, a, copied(b), i == j)
		}
	}
}

// An empty slice may be nil or not.
func TestEqualOfEmptyLists(t *testing.T) {
	empty := list(api.Series{Labels: []api.Label{}, Samples: []api.Sample{}})
	expectEqual(t, nil, []api.Series{}, true)
	expectEqual(t, nil, empty[:0], true)
	expectEqual(t, empty, make([]api.Series, 1), true)
	expectEqual(t, empty, nil, false)
	expectEqual(t, make([]api.Series, 1), make([]api.Series, 2), false)
}

// The lists need not be blocks.
func TestEqualOfOtherLists(t *testing.T) {
	all := listsOf(2, pool())
	for i, a := range all {
		for j, b := range all {
			if got := Equal(a, b); got != (i == j) {
				t.Fatalf("Equal of %s and %s returns %v", shown(a), shown(b), got)
			}
		}
		expectEqual(t, a, copied(a), true)
	}
}

// What lies behind the end of a list does not belong to it.
func TestEqualStaysWithinTheLists(t *testing.T) {
	a, b := list(series("a=1 b=2", 1, 2), series("c=3", 1)), list(series("a=1 b=3", 1, 3), series("c=4", 1))
	expectEqual(t, a, b, false)
	for _, l := range [][]api.Series{a, b} {
		l[0].Labels, l[0].Samples = l[0].Labels[:1], l[0].Samples[:1]
	}
	expectEqual(t, a, b, false)
	expectEqual(t, a[:1], b[:1], true)
	expectEqual(t, a[:0], b[1:1], true)
}

// manyLists are blocks and other lists.
func manyLists() [][]api.Series {
	return append(append(blocks(), variants()...), listsOf(2, pool())...)
}

// A change of the copy changes nothing in b, and a change of b nothing in the copy.
func TestClone(t *testing.T) {
	for _, b := range manyLists() {
		b, kept := copied(b), copied(b)
		one, two := Clone(b), Clone(b)
		if !same(one, kept) || !same(b, kept) {
			t.Errorf("Clone of %s returns %s", shown(kept), shown(one))
		}
		overwrite(one)
		if !same(b, kept) || !same(two, kept) {
			t.Errorf("with the copy, %s has become %s, and another copy %s", shown(kept), shown(b), shown(two))
		}
		overwrite(b)
		if !same(two, kept) {
			t.Errorf("with the block, the copy %s has become %s", shown(kept), shown(two))
		}
	}
}

// A change of any single label or sample, or of a series, changes that of one list alone.
func TestCloneOfSingleChanges(t *testing.T) {
	b := list(series("a=1 b=2", 1, 2, 3), series("c=3", 4))
	for i, s := range b {
		c := Clone(b)
		c[i].Labels = nil
		c[i].Samples = nil
		expectEqual(t, b, list(series("a=1 b=2", 1, 2, 3), series("c=3", 4)), true)
		for j := range s.Labels {
			c := Clone(b)
			c[i].Labels[j].Name, c[i].Labels[j].Value = "x", "y"
			expectEqual(t, b, list(series("a=1 b=2", 1, 2, 3), series("c=3", 4)), true)
		}
		for j := range s.Samples {
			c := Clone(b)
			c[i].Samples[j].T, c[i].Samples[j].V = 8, 9
			expectEqual(t, b, list(series("a=1 b=2", 1, 2, 3), series("c=3", 4)), true)
		}
	}
}

func TestCloneSharesNoMemoryWithinTheResult(t *testing.T) {
	set, samples := labelsOf("a=1 b=2 c=3"), many(4)
	b := list(api.Series{Labels: set[:1], Samples: samples[:2]}, api.Series{Labels: set, Samples: samples}, api.Series{Labels: set[1:], Samples: samples[1:]})
	b = append(b, b[1])
	expectSeparate(t, b, func() []api.Series { return Clone(b) })
}

// Neither the lists nor what lies behind their ends is changed if the copy grows.
func TestCloneStaysWithinTheLists(t *testing.T) {
	b := list(series("a=1 b=2", 1, 2), series("c=3", 1))
	kept := copied(b)
	short := list(api.Series{Labels: b[0].Labels[:1], Samples: b[0].Samples[:1]}, b[1])
	c := Clone(short[:1])
	if len(c) != 1 || len(c[0].Labels) != 1 || len(c[0].Samples) != 1 {
		t.Errorf("Clone returns %s", shown(c))
	}
	clear(append(c, series("x=1", 9)))
	clear(append(Clone(short)[0].Labels, api.Label{}))
	clear(append(Clone(short)[0].Samples, api.Sample{}))
	if !same(b, kept) || !same(short[1:], kept[1:]) {
		t.Errorf("with the copy, %s has become %s and %s", shown(kept), shown(b), shown(short))
	}
}

// P12.4

func TestSamples(t *testing.T) {
	expectSamples(t, nil, 0)
	expectSamples(t, []api.Series{}, 0)
	expectSamples(t, make([]api.Series, 5), 0)
	expectSamples(t, list(series("a=1")), 0)
	expectSamples(t, list(series("", 1)), 1)
	expectSamples(t, list(series("a=1 b=2", 1, 2)), 2)
	expectSamples(t, list(series("a=1", 1, 2), series("a=1", 1, 2)), 4)
	expectSamples(t, list(series("=1", 5, 5, 4), series(">=1"), series("", 1, 2)), 5)
	expectSamples(t, list(series(""), series("a=1", 1, 2, 3), series("")), 3)
	expectSamples(t, list(series("a=1", 1), series("b=1", 1, 2))[:1], 1)
	expectSamples(t, list(api.Series{Samples: many(9)[:3]}), 3)
	expectSamples(t, list(api.Series{Samples: many(100000)}, series("", 1)), 100001)
	expectSamples(t, ascending(300), 750)
	expectSamples(t, crowd(100000, many(3)), 300000)
}

func TestSymbols(t *testing.T) {
	expectSymbols(t, nil)
	expectSymbols(t, []api.Series{})
	expectSymbols(t, make([]api.Series, 5))
	expectSymbols(t, list(series("", 1, 2)))
	expectSymbols(t, list(series("a=1", 1)), "1", "a")
	expectSymbols(t, list(series("a=1")), "1", "a")
	expectSymbols(t, list(series("a=a", 1)), "a")
	expectSymbols(t, list(series("a=", 1)), "", "a")
	expectSymbols(t, list(series("=", 1)), "")
	expectSymbols(t, list(series("z=y x=w", 1)), "w", "x", "y", "z")
	expectSymbols(t, list(series("b=2 a=1 b=2", 1)), "1", "2", "a", "b")
	expectSymbols(t, list(series("b=1", 1), series(""), series("a=1")), "1", "a", "b")
	expectSymbols(t, list(series("a=b", 1), series("b=a", 1), series("a=b", 1)), "a", "b")
	expectSymbols(t, list(series("a=1 b=2", 1), series("b=1 c=2", 1))[:1], "1", "2", "a", "b")
	expectSymbols(t, list(series("job=node zone=eu", 1), series("job=node zone=us", 1)), "eu", "job", "node", "us", "zone")
	expectSymbols(t, list(series("a=10 aa=9 A=ä ab=\xff", 1)), "10", "9", "A", "a", "aa", "ab", "ä", "\xff")
	expectSymbols(t, list(series("<=> >=<", 1), series("m=<", 1)), "m", most, more)
	expectSymbols(t, list(api.Series{Labels: labelsOf("a=1 b=2")[:1]}), "1", "a")
}

func TestSymbolsEqualTheTable(t *testing.T) {
	for _, b := range manyLists() {
		var l []string
		for _, s := range b {
			for _, x := range s.Labels {
				l = append(l, x.Value, x.Name)
			}
		}
		expectSymbols(t, b, symbols.Table(l...)...)
	}
}

func TestSymbolsOfManySeries(t *testing.T) {
	b := crowd(50000, many(1))
	var want []string
	for _, s := range b {
		want = append(want, s.Labels[0].Value)
	}
	slices.Reverse(b)
	expectSymbols(t, b, append(want, "n")...)
}

func TestSymbolsSharesNoMemory(t *testing.T) {
	b := list(series("a=1 b=2", 1), series("c=3", 1))
	kept := copied(b)
	one, two := Symbols(b), Symbols(b)
	clear(append(one, "x"))
	clear(one)
	overwrite(b)
	if !slices.Equal(two, []string{"1", "2", "3", "a", "b", "c"}) {
		t.Errorf("the symbols of %s have become %q", shown(kept), two)
	}
}

// P12.5

// What Normalize returns is a block, whatever the order of the series, labels and samples, and stays as it is.
func TestNormalizeInAnyOrder(t *testing.T) {
	source := rand.New(rand.NewSource(125))
	accepted := 0
	for range 10000 {
		l := randomList(source)
		b, e := Normalize(l)
		expectCheck(t, b, api.OK)
		expectNormalize(t, b, b, api.OK)
		if e != api.OK && e != api.ErrSet { // which of several errors is first depends on the order
			continue
		}
		accepted++
		source.Shuffle(len(l), func(i, j int) { l[i], l[j] = l[j], l[i] })
		for _, s := range l {
			source.Shuffle(len(s.Labels), func(i, j int) { s.Labels[i], s.Labels[j] = s.Labels[j], s.Labels[i] })
			source.Shuffle(len(s.Samples), func(i, j int) { s.Samples[i], s.Samples[j] = s.Samples[j], s.Samples[i] })
		}
		expectNormalize(t, l, b, e)
	}
	if accepted < 1000 {
		t.Errorf("only %d lists have been put into another order", accepted)
	}
}

// A list that Check accepts is one that Normalize returns as it is, and the other way round.
func TestCheckAgreesWithNormalize(t *testing.T) {
	for _, l := range manyLists() {
		b, e := Normalize(l)
		if unchanged := e == api.OK && same(b, l); unchanged != (Check(l) == api.OK) {
			t.Errorf("Check of %s returns %v, and Normalize %s and %v", shown(l), Check(l), shown(b), e)
		}
	}
}

// P1, P2

func TestCallsAreIndependent(t *testing.T) {
	var group sync.WaitGroup
	for _, b := range blocks() {
		group.Go(func() {
			for range 20 {
				l := Clone(b)
				slices.Reverse(l)
				got, e := Normalize(l)
				if e != api.OK || Check(got) != api.OK || !Equal(got, b) || Samples(got) != Samples(b) || !slices.Equal(Symbols(got), Symbols(l)) {
					t.Errorf("Normalize returns %s and %v, want %s", shown(got), e, shown(b))
				}
			}
		})
	}
	group.Wait()
}
