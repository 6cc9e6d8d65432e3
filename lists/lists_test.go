package lists

import (
	"fmt"
	"math"
	"math/rand"
	"slices"
	"sync"
	"testing"
	"time"
)

const (
	least    = math.MinInt
	greatest = math.MaxInt

	// spare is the number in the memory behind each argument. If it were read, it would be a common number of all lists.
	spare = 1 << 30
)

// function is a function of some lists.
type function struct {
	name string
	of   func(l ...[]int) []int
}

var (
	intersect  = function{"Intersect", Intersect}
	union      = function{"Union", Union}
	difference = function{"Difference", func(l ...[]int) []int { return Difference(l[0], l[1]) }}
)

// complement is the function Complement with a bound.
func complement(n int) function {
	return function{fmt.Sprintf("Complement up to %d", n), func(l ...[]int) []int { return Complement(l[0], n) }}
}

// of returns a list of numbers, and all a list of lists.
func of(l ...int) []int       { return l }
func all(l ...[]int) [][]int  { return l }
func copied(l []int) []int    { return append([]int(nil), l...) }
func shown(l []int) string    { return fmt.Sprintf("%d (%d numbers)", l[:min(len(l), 20)], len(l)) }
func has(l []int, x int) bool { return slices.Index(l, x) >= 0 }

// upFrom returns n numbers from the first one on, with the same step between them.
func upFrom(first, step, n int) []int {
	l := make([]int, n)
	for i := range l {
		l[i] = first + i*step
	}
	return l
}

// subsets returns all sorted lists of some of the numbers, which must be sorted.
func subsets(numbers ...int) [][]int {
	l := [][]int{nil}
	for _, x := range numbers {
		for _, s := range l {
			l = append(l, append(copied(s), x))
		}
	}
	return l
}

// tuples calls a function for all choices of n of the lists, in every order and with repetitions.
func tuples(n int, from [][]int, do func(l [][]int)) {
	if n == 0 {
		do(nil)
		return
	}
	tuples(n-1, from, func(l [][]int) {
		for _, x := range from {
			do(append(slices.Clone(l), x))
		}
	})
}

// orders returns the lists in every order.
func orders(l [][]int) [][][]int {
	if len(l) == 0 {
		return [][][]int{nil}
	}
	var every [][][]int
	for i, x := range l {
		for _, rest := range orders(slices.Delete(slices.Clone(l), i, i+1)) {
			every = append(every, append(rest, x))
		}
	}
	return every
}

// isAscending looks at every pair of numbers.
func isAscending(l []int) bool {
	for i := range l {
		for j := range i {
			if l[j] >= l[i] {
				return false
			}
		}
	}
	return true
}

// inAtLeast returns the numbers that are in at least n of the lists, where no list repeats a number.
func inAtLeast(n int, l [][]int) []int {
	count := map[int]int{}
	for _, x := range l {
		for _, number := range x {
			count[number]++
		}
	}
	var numbers []int
	for number, c := range count {
		if c >= n {
			numbers = append(numbers, number)
		}
	}
	slices.Sort(numbers)
	return numbers
}

func referenceUnion(l [][]int) []int { return inAtLeast(1, l) }

func referenceIntersect(l [][]int) []int { return inAtLeast(max(len(l), 1), l) }

func referenceDifference(a, b []int) []int {
	return slices.DeleteFunc(copied(a), func(x int) bool { return has(b, x) })
}

func referenceComplement(l []int, n int) []int {
	var rest []int
	for x := 0; x < n; x++ {
		if !has(l, x) {
			rest = append(rest, x)
		}
	}
	return rest
}

// guarded returns copies of lists, with numbers and lists in the memory behind them.
func guarded(l [][]int) [][]int {
	c := make([][]int, len(l), len(l)+2)
	for i, x := range l {
		c[i] = append(copied(x), spare, spare+1, spare+2)[:len(x)]
	}
	_ = append(c, of(spare), of(spare))
	return c
}

// isGuarded reports whether lists are still those that guarded has returned for l.
func isGuarded(c, l [][]int) bool {
	for i, x := range l {
		behind := c[i][len(x) : len(x)+3]
		if !slices.Equal(c[i], x) || !slices.Equal(behind, of(spare, spare+1, spare+2)) {
			return false
		}
	}
	behind := c[len(l) : len(l)+2]
	return slices.Equal(behind[0], of(spare)) && slices.Equal(behind[1], of(spare))
}

// overwrite changes all numbers of a list, and those in the memory behind it.
func overwrite(l []int) {
	l = l[:cap(l)]
	for i := range l {
		l[i] = -999
	}
}

// expect checks the result of a function, that it is newly allocated, and that no argument is changed.
func expect(t *testing.T, f function, want []int, l ...[]int) {
	t.Helper()
	c := guarded(l)
	first, second := f.of(c...), f.of(c...)
	if !slices.Equal(first, want) || !slices.Equal(second, want) {
		t.Errorf("%s of %d returns %s and then %s, want %s", f.name, l, shown(first), shown(second), shown(want))
	}
	if !isGuarded(c, l) {
		t.Errorf("%s of %d changes its arguments to %d", f.name, l, c)
	}
	overwrite(first)
	if !isGuarded(c, l) {
		t.Errorf("%s of %d shares memory with its arguments", f.name, l)
	}
	if !slices.Equal(second, want) {
		t.Errorf("%s of %d shares memory with the result of another call", f.name, l)
	}
	for _, x := range c {
		overwrite(x)
	}
	if !slices.Equal(second, want) {
		t.Errorf("%s of %d changes with its arguments", f.name, l)
	}
}

// expectLong checks the result of a function of long lists, and that it is there before a time that is far more than it needs.
func expectLong(t *testing.T, f function, want []int, l ...[]int) {
	t.Helper()
	result := make(chan []int, 1)
	go func() { result <- f.of(l...) }()
	select {
	case got := <-result:
		if !slices.Equal(got, want) {
			t.Errorf("%s of %d lists returns %s, want %s", f.name, len(l), shown(got), shown(want))
		}
	case <-time.After(2 * time.Minute):
		t.Fatalf("%s of %d lists takes too many steps", f.name, len(l))
	}
}

// P14.1

func TestIsSorted(t *testing.T) {
	for _, l := range all(
		nil,
		of(),
		of(0),
		of(7),
		of(-7),
		of(least),
		of(greatest),
		of(1, 2),
		of(-2, -1),
		of(-1, 0, 1),
		of(-30, -20, -3, -2),
		of(1, 2, 5),
		of(0, 1000000),
		of(least, greatest),
		of(least, least+1),
		of(greatest-1, greatest),
		of(least, 0, greatest),
		of(least, -1, 0, 1, greatest),
		upFrom(-500, 1, 1000),
		upFrom(least, 1, 1000),
		upFrom(greatest-999, 1, 1000),
	) {
		if !IsSorted(l) {
			t.Errorf("IsSorted of %s is false", shown(l))
		}
	}
}

func TestIsSortedOfOtherLists(t *testing.T) {
	for _, l := range all(
		of(0, 0),
		of(7, 7),
		of(-7, -7),
		of(least, least),
		of(greatest, greatest),
		of(2, 1),
		of(-1, -2),
		of(0, -1),
		of(greatest, least),
		of(least+1, least),
		of(greatest, greatest-1),
		of(0, least),
		of(greatest, 0),
		of(least, greatest, least),
		of(greatest, least, greatest),
		of(2, 1, 3),
		of(1, 3, 2),
		of(1, 1, 2),
		of(1, 2, 2),
		of(1, 2, 1),
		of(3, 2, 1),
		of(1, 5, 2, 7),
		of(-1, -2, -3),
	) {
		if IsSorted(l) {
			t.Errorf("IsSorted of %s is true", shown(l))
		}
	}
}

// One number of a long list equals the one before, or is smaller, at every place.
func TestIsSortedOfOneWrongNumber(t *testing.T) {
	for i := 1; i < 300; i++ {
		for _, less := range []int{10, 11, 1000, 1 << 30} {
			l := upFrom(-1000, 10, 300)
			l[i] -= less
			if IsSorted(l) {
				t.Errorf("IsSorted is true though the number %d is %d less", i, less)
			}
		}
		l := upFrom(-1000, 10, 300)
		l[i] -= 9
		if !IsSorted(l) {
			t.Errorf("IsSorted is false though the number %d is greater than the one before", i)
		}
	}
}

func TestIsSortedOfAllShortLists(t *testing.T) {
	var single [][]int
	for _, x := range of(least, least+1, -1, 0, 1, greatest-1, greatest) {
		single = append(single, of(x))
	}
	for n := range 6 {
		tuples(n, single, func(l [][]int) {
			x := slices.Concat(l...)
			kept := copied(x)
			if got := IsSorted(x); got != isAscending(kept) {
				t.Errorf("IsSorted of %d is %v", kept, got)
			}
			if !slices.Equal(x, kept) {
				t.Errorf("IsSorted changes %d to %d", kept, x)
			}
		})
	}
}

func TestIsSortedStaysWithinTheList(t *testing.T) {
	l := of(5, 1, 2, 3, 0)
	if !IsSorted(l[1:4]) || !IsSorted(l[:1]) || !IsSorted(l[:0]) || IsSorted(l[:2]) || IsSorted(l[3:]) {
		t.Error("IsSorted does not judge the numbers of the list alone")
	}
}

// P14.2

func TestIntersectAndUnion(t *testing.T) {
	for _, c := range []struct {
		l             [][]int
		common, every []int
	}{
		{all(of(1, 2, 5), of(2, 5, 9)), of(2, 5), of(1, 2, 5, 9)},
		{nil, nil, nil},
		{all(), nil, nil},
		{all(nil), nil, nil},
		{all(of()), nil, nil},
		{all(of(3)), of(3), of(3)},
		{all(of(1, 2, 5)), of(1, 2, 5), of(1, 2, 5)},
		{all(nil, nil), nil, nil},
		{all(of(1, 2), of(1, 2)), of(1, 2), of(1, 2)},
		{all(of(1, 2), of(1, 2), of(1, 2)), of(1, 2), of(1, 2)},
		{all(nil, of(1, 2)), nil, of(1, 2)},
		{all(of(1, 2), nil), nil, of(1, 2)},
		{all(nil, of(1, 2), of(1, 3)), nil, of(1, 2, 3)},
		{all(of(1, 2), nil, of(1, 3)), nil, of(1, 2, 3)},
		{all(of(1, 2), of(1, 3), nil), nil, of(1, 2, 3)},
		{all(nil, nil, of(1)), nil, of(1)},
		{all(nil, nil, nil), nil, nil},
		{all(of(1, 2, 3, 4, 5), of(2, 4)), of(2, 4), of(1, 2, 3, 4, 5)},
		{all(of(1, 2, 3), of(1)), of(1), of(1, 2, 3)},
		{all(of(1, 2, 3), of(2)), of(2), of(1, 2, 3)},
		{all(of(1, 2, 3), of(3)), of(3), of(1, 2, 3)},
		{all(of(1, 3, 5), of(2, 4, 6)), nil, of(1, 2, 3, 4, 5, 6)},
		{all(of(1, 3, 5), of(2, 4)), nil, of(1, 2, 3, 4, 5)},
		{all(of(1, 2, 3), of(4, 5, 6)), nil, of(1, 2, 3, 4, 5, 6)},
		{all(of(1, 2, 3), of(3, 4, 5)), of(3), of(1, 2, 3, 4, 5)},
		{all(of(1, 2, 3), of(2, 3, 4), of(3, 4, 5)), of(3), of(1, 2, 3, 4, 5)},
		{all(of(1, 2), of(2, 3), of(1, 3)), nil, of(1, 2, 3)},
		{all(of(1), of(2), of(3), of(4), of(5)), nil, of(1, 2, 3, 4, 5)},
		{all(of(5, 6), of(4, 6), of(3, 6), of(2, 6), of(1, 6)), of(6), of(1, 2, 3, 4, 5, 6)},
		{all(of(0, 1), of(0, 2), of(0, 3), of(1, 2)), nil, of(0, 1, 2, 3)},
		{all(of(-5, -3, 0), of(-5, -4, 0)), of(-5, 0), of(-5, -4, -3, 0)},
		{all(of(least), of(greatest)), nil, of(least, greatest)},
		{all(of(least, greatest), of(least, greatest)), of(least, greatest), of(least, greatest)},
		{all(of(least, 0, greatest), of(least), of(least, greatest)), of(least), of(least, 0, greatest)},
		{all(of(least, 0, greatest), of(greatest)), of(greatest), of(least, 0, greatest)},
		{all(of(least, least+1), of(greatest-1, greatest)), nil, of(least, least+1, greatest-1, greatest)},
	} {
		for _, l := range orders(c.l) {
			expect(t, intersect, c.common, l...)
			expect(t, union, c.every, l...)
		}
	}
}

// checkCombinations checks Intersect and Union of lists against the references.
func checkCombinations(t *testing.T, l [][]int) {
	t.Helper()
	expect(t, intersect, referenceIntersect(l), l...)
	expect(t, union, referenceUnion(l), l...)
}

func TestIntersectAndUnionOfAllShortLists(t *testing.T) {
	for n, from := range [][][]int{
		1: subsets(least, -2, -1, 0, 1, 2, 3, greatest),
		2: subsets(least, -1, 0, 1, 2, greatest),
		3: subsets(least, 0, 1, greatest),
		4: subsets(-1, 0, 1),
		5: subsets(0, 1),
		6: subsets(0, 1),
		9: subsets(5),
	} {
		if len(from) > 0 {
			tuples(n, from, func(l [][]int) { checkCombinations(t, l) })
		}
	}
}

// someOf returns a sorted list of numbers from -bound to bound, of which each one is in it with the same probability.
func someOf(source *rand.Rand, bound int) []int {
	part := source.Float64() * source.Float64()
	var l []int
	for x := -bound; x <= bound; x++ {
		if source.Float64() < part {
			l = append(l, x)
		}
	}
	return l
}

func TestIntersectAndUnionOfAnyLists(t *testing.T) {
	source := rand.New(rand.NewSource(141))
	for range 3000 {
		shared := someOf(source, 30)
		l := make([][]int, source.Intn(12))
		for i := range l {
			l[i] = referenceUnion(all(shared, someOf(source, 1+source.Intn(60))))
		}
		checkCombinations(t, l)
	}
}

// Every number of lists up to 70 is tried, of which one lacks a number or alone has it.
func TestIntersectAndUnionOfEveryNumberOfLists(t *testing.T) {
	for n := 1; n <= 70; n++ {
		for i := range n {
			l := make([][]int, n)
			for j := range l {
				l[j] = of(1, 2, 4)
			}
			l[i] = of(1, 3, 4)
			checkCombinations(t, l)
		}
	}
}

// P14.3

func TestDifference(t *testing.T) {
	for _, c := range []struct{ a, b, want []int }{
		{of(1, 2, 5), of(2, 5, 9), of(1)},
		{of(2, 5, 9), of(1, 2, 5), of(9)},
		{nil, nil, nil},
		{of(), of(), nil},
		{nil, of(1, 2), nil},
		{of(1, 2), nil, of(1, 2)},
		{of(1, 2), of(), of(1, 2)},
		{of(1), of(1), nil},
		{of(1, 2, 5), of(1, 2, 5), nil},
		{of(10, 20, 30), of(1, 2), of(10, 20, 30)},
		{of(10, 20, 30), of(15, 25), of(10, 20, 30)},
		{of(10, 20, 30), of(31, 40), of(10, 20, 30)},
		{of(10, 20, 30), of(1, 10, 15, 30, 40), of(20)},
		{of(10, 20, 30), of(1, 10, 20, 30, 40), nil},
		{of(10, 20, 30), of(10), of(20, 30)},
		{of(10, 20, 30), of(20), of(10, 30)},
		{of(10, 20, 30), of(30), of(10, 20)},
		{of(20), of(10, 20, 30), nil},
		{of(20), upFrom(0, 1, 1000), nil},
		{of(-20), upFrom(0, 1, 1000), of(-20)},
		{of(2000), upFrom(0, 1, 1000), of(2000)},
		{upFrom(0, 1, 1000), of(0), upFrom(1, 1, 999)},
		{upFrom(0, 1, 1000), of(999), upFrom(0, 1, 999)},
		{upFrom(0, 1, 1000), of(-1, 1000), upFrom(0, 1, 1000)},
		{upFrom(0, 1, 1000), upFrom(1, 2, 500), upFrom(0, 2, 500)},
		{of(-3, -2, -1), of(-2), of(-3, -1)},
		{of(least, 0, greatest), of(least), of(0, greatest)},
		{of(least, 0, greatest), of(greatest), of(least, 0)},
		{of(least, 0, greatest), of(0), of(least, greatest)},
		{of(least, greatest), of(least, greatest), nil},
		{of(least), of(greatest), of(least)},
		{of(greatest), of(least), of(greatest)},
		{of(least+1, greatest-1), of(least, greatest), of(least+1, greatest-1)},
	} {
		expect(t, difference, c.want, c.a, c.b)
	}
}

func TestDifferenceOfAllShortLists(t *testing.T) {
	tuples(2, subsets(least, -1, 0, 1, 2, greatest), func(l [][]int) {
		expect(t, difference, referenceDifference(l[0], l[1]), l...)
	})
}

func TestDifferenceOfAnyLists(t *testing.T) {
	source := rand.New(rand.NewSource(142))
	for range 3000 {
		a, b := someOf(source, 1+source.Intn(60)), someOf(source, 1+source.Intn(60))
		expect(t, difference, referenceDifference(a, b), a, b)
	}
}

func TestComplement(t *testing.T) {
	for _, c := range []struct {
		l    []int
		n    int
		want []int
	}{
		{of(1, 2, 5), 6, of(0, 3, 4)},
		{nil, 6, of(0, 1, 2, 3, 4, 5)},
		{of(), 6, of(0, 1, 2, 3, 4, 5)},
		{nil, 0, nil},
		{nil, 1, of(0)},
		{nil, -1, nil},
		{nil, least, nil},
		{of(0), 0, nil},
		{of(0), 1, nil},
		{of(0), -1, nil},
		{of(-1), 1, of(0)},
		{of(1), 1, of(0)},
		{of(-1), 0, nil},
		{of(-1), -1, nil},
		{of(-5, -3), -1, nil},
		{of(-5, 0, 5), -2, nil},
		{of(1, 2, 5), least, nil},
		{of(0, 1, 2, 3), 4, nil},
		{of(0, 1, 2, 3), 5, of(4)},
		{of(0, 1, 2, 3), 3, nil},
		{of(-3, -2, -1, 1), 3, of(0, 2)},
		{of(-3, -2, -1), 3, of(0, 1, 2)},
		{of(2), 3, of(0, 1)},
		{of(3), 3, of(0, 1, 2)},
		{of(2, 3), 3, of(0, 1)},
		{of(1, 4, 5, 6), 3, of(0, 2)},
		{of(-2, -1, 0, 1, 2, 3, 4), 3, nil},
		{of(least), 2, of(0, 1)},
		{of(greatest), 2, of(0, 1)},
		{of(least, 1, greatest), 3, of(0, 2)},
		{of(least, greatest), 0, nil},
		{of(least, greatest), least, nil},
		{upFrom(0, 2, 500), 1000, upFrom(1, 2, 500)},
		{upFrom(0, 1, 1000), 1000, nil},
		{upFrom(-1000, 1, 1500), 1000, upFrom(500, 1, 500)},
	} {
		expect(t, complement(c.n), c.want, c.l)
	}
}

func TestComplementOfAllShortLists(t *testing.T) {
	bounds := append(upFrom(-3, 1, 11), least, least+1)
	for _, l := range subsets(least, -2, -1, 0, 1, 2, 3, 4, greatest) {
		for _, n := range bounds {
			expect(t, complement(n), referenceComplement(l, n), l)
		}
	}
}

func TestComplementOfAnyLists(t *testing.T) {
	source := rand.New(rand.NewSource(143))
	for range 3000 {
		l, n := someOf(source, 1+source.Intn(60)), source.Intn(80)-5
		expect(t, complement(n), referenceComplement(l, n), l)
	}
}

// P14.4

// long is the length of long lists. Steps for all pairs of their numbers would take far too long.
const long = 1 << 21

func TestStepsOfLongLists(t *testing.T) {
	even, odd, whole := upFrom(0, 2, long), upFrom(1, 2, long), upFrom(0, 1, 2*long)
	later := upFrom(2*long, 1, long)
	if !IsSorted(whole) || IsSorted(append(copied(whole), 0)) {
		t.Error("IsSorted misjudges long lists")
	}
	expectLong(t, intersect, nil, even, odd)
	expectLong(t, intersect, even, even, whole)
	expectLong(t, intersect, even, even, even)
	expectLong(t, intersect, nil, even, later)
	expectLong(t, intersect, of(0, 2*long-2), even, of(-1, 0, 2*long-2, 2*long))
	expectLong(t, union, whole, even, odd)
	expectLong(t, union, whole, odd, even)
	expectLong(t, union, whole, whole, odd)
	expectLong(t, union, upFrom(0, 1, 3*long), later, whole)
	expectLong(t, difference, odd, whole, even)
	expectLong(t, difference, nil, even, whole)
	expectLong(t, difference, nil, whole, whole)
	expectLong(t, difference, later, later, whole)
	expectLong(t, difference, nil, of(4), whole)
	expectLong(t, difference, upFrom(1, 1, 2*long-1), whole, of(0))
	expectLong(t, complement(2*long), odd, even)
	expectLong(t, complement(2*long), whole, nil)
	expectLong(t, complement(2*long), whole, later)
	expectLong(t, complement(2*long), nil, whole)
	expectLong(t, complement(2), of(1), even)
	expectLong(t, complement(0), nil, whole)
}

// Some lists of different lengths have the same number of numbers in all.
func TestStepsOfManyLists(t *testing.T) {
	for _, n := range []int{3, 64, 1024, 1 << 17} {
		each := (1 << 20) / n
		alternating, separate, equal := make([][]int, n), make([][]int, n), make([][]int, n)
		for i := range n {
			alternating[i] = upFrom(i, n, each)
			separate[n-1-i] = upFrom(i*each, 1, each)
			equal[i] = upFrom(0, 3, each)
		}
		expectLong(t, union, upFrom(0, 1, n*each), alternating...)
		expectLong(t, union, upFrom(0, 1, n*each), separate...)
		expectLong(t, union, equal[0], equal...)
		expectLong(t, intersect, nil, alternating...)
		expectLong(t, intersect, nil, separate...)
		expectLong(t, intersect, equal[0], equal...)
	}
}

func TestStepsOfManyEmptyLists(t *testing.T) {
	l := make([][]int, 1<<20)
	expectLong(t, union, nil, l...)
	expectLong(t, intersect, nil, l...)
	l[1000] = of(1, 2)
	expectLong(t, union, of(1, 2), l...)
	expectLong(t, intersect, nil, l...)
}

// One list is long and the others are short.
func TestStepsOfListsOfDifferentLengths(t *testing.T) {
	whole := upFrom(0, 1, 1<<18)
	for _, place := range []int{0, 100, 199} {
		l := make([][]int, 200)
		for i := range l {
			l[i] = of(-1, i, 300)
		}
		l[place] = whole
		expectLong(t, union, upFrom(-1, 1, 1<<18+1), l...)
		expectLong(t, intersect, of(300), l...)
	}
}

// P14.5

func TestCombinationsInAnyOrder(t *testing.T) {
	source := rand.New(rand.NewSource(144))
	for range 300 {
		l := make([][]int, source.Intn(6))
		for i := range l {
			l[i] = someOf(source, 5)
		}
		common, every := Intersect(l...), Union(l...)
		for _, o := range orders(l) {
			if got := Intersect(o...); !slices.Equal(got, common) {
				t.Errorf("Intersect of %d is %d, and of %d it is %d", l, common, o, got)
			}
			if got := Union(o...); !slices.Equal(got, every) {
				t.Errorf("Union of %d is %d, and of %d it is %d", l, every, o, got)
			}
		}
	}
}

// checkLaws checks what the functions say about the same lists, which are at least one.
func checkLaws(t *testing.T, n int, l ...[]int) {
	t.Helper()
	complements := make([][]int, len(l))
	for i, x := range l {
		complements[i] = Complement(x, n)
	}
	if a, b := Complement(Union(l...), n), Intersect(complements...); !slices.Equal(a, b) {
		t.Errorf("the complement of the union of %d up to %d is %d, and the intersection of the complements %d", l, n, a, b)
	}
	if a, b := Complement(Intersect(l...), n), Union(complements...); !slices.Equal(a, b) {
		t.Errorf("the complement of the intersection of %d up to %d is %d, and the union of the complements %d", l, n, a, b)
	}
	first, rest := l[0], Union(l[1:]...)
	parts := all(Difference(first, rest), Intersect(first, rest), Difference(rest, first))
	if whole := Union(l...); !slices.Equal(Union(parts...), whole) || len(slices.Concat(parts...)) != len(whole) {
		t.Errorf("the union of %d is %d, and its parts are %d", l, whole, parts)
	}
	for _, x := range append(parts, complements...) {
		if !IsSorted(x) {
			t.Errorf("a result for %d is %d, which is not sorted", l, x)
		}
	}
}

func TestLawsOfAllShortLists(t *testing.T) {
	from := subsets(least, -1, 0, 2, greatest)
	for _, n := range of(least, -1, 0, 1, 2, 3, 4) {
		for count := 1; count <= 2; count++ {
			tuples(count, from, func(l [][]int) { checkLaws(t, n, l...) })
		}
		tuples(3, subsets(-1, 0, 2), func(l [][]int) { checkLaws(t, n, l...) })
	}
}

func TestLawsOfAnyLists(t *testing.T) {
	source := rand.New(rand.NewSource(145))
	for range 2000 {
		l := make([][]int, 1+source.Intn(8))
		for i := range l {
			l[i] = someOf(source, 1+source.Intn(40))
		}
		checkLaws(t, source.Intn(50), l...)
	}
}

// P1, P2

// The results for lists that are not sorted are not specified, but there are some.
func TestListsThatAreNotSorted(t *testing.T) {
	var lists [][]int
	for n := range 4 {
		tuples(n, all(of(least), of(0), of(1), of(greatest)), func(l [][]int) {
			lists = append(lists, slices.Concat(l...))
		})
	}
	tuples(2, lists, func(l [][]int) {
		c := guarded(l)
		Intersect(c...)
		Union(c...)
		Difference(c[0], c[1])
		Complement(c[0], len(c[1]))
		if !isGuarded(c, l) {
			t.Errorf("a function changes %d to %d", l, c)
		}
	})
}

// A loop over merged lists may be left at every number.
func TestMergeIsLeft(t *testing.T) {
	a, b := of(1, 2, 5), of(2, 5, 9)
	whole := of(1, 2, 5, 9)
	for n := range len(whole) {
		var seen []int
		for number := range merge(a, b) {
			seen = append(seen, number)
			if len(seen) > n {
				break
			}
		}
		if !slices.Equal(seen, whole[:n+1]) {
			t.Errorf("the first %d numbers are %d", n+1, seen)
		}
	}
}

func TestCallsAreIndependent(t *testing.T) {
	a, b := upFrom(0, 2, 1000), upFrom(0, 3, 1000)
	common, every := referenceIntersect(all(a, b)), referenceUnion(all(a, b))
	rest, gaps := referenceDifference(a, b), referenceComplement(a, 1000)
	var group sync.WaitGroup
	for range 8 {
		group.Go(func() {
			for range 50 {
				if !slices.Equal(Intersect(a, b), common) || !slices.Equal(Union(a, b), every) || !slices.Equal(Difference(a, b), rest) || !slices.Equal(Complement(a, 1000), gaps) || !IsSorted(a) {
					t.Error("a call returns another result beside others")
				}
			}
		})
	}
	group.Wait()
}
