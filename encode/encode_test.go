package encode

import (
	"bytes"
	"encoding/binary"
	"encoding/hex"
	"fmt"
	"math"
	"math/rand"
	"slices"
	"sort"
	"strings"
	"sync"
	"testing"

	"tsblock/api"
	"tsblock/chunk"
	"tsblock/layout"
	"tsblock/model"
	"tsblock/postings"
	"tsblock/records"
	"tsblock/symbols"
)

const (
	least    = math.MinInt64
	greatest = math.MaxInt64
)

// long returns a string of n bytes.
func long(n int) string { return strings.Repeat("m", n) }

var (
	most = long(api.MaxString)
	more = long(api.MaxString + 1)
)

// labelsOf returns labels written as a=1, with blanks between them. The strings < and > stand for ones of api.MaxString and of one more byte.
func labelsOf(text string) []api.Label {
	var l []api.Label
	for _, field := range strings.Fields(text) {
		name, value, _ := strings.Cut(field, "=")
		l = append(l, api.Label{Name: stringOf(name), Value: stringOf(value)})
	}
	return l
}

func stringOf(s string) string {
	switch s {
	case "<":
		return most
	case ">":
		return more
	default:
		return s
	}
}

// at returns samples at some times, with different values.
func at(times ...int64) []api.Sample {
	var l []api.Sample
	for i, time := range times {
		l = append(l, api.Sample{T: time, V: uint64(time)*1000 + uint64(i)})
	}
	return l
}

func series(text string, samples []api.Sample) api.Series {
	return api.Series{Labels: labelsOf(text), Samples: samples}
}

// list returns a list of series.
func list(l ...api.Series) []api.Series { return l }

// regular returns n samples at regular times, from 0 on.
func regular(n int, value func(i int) uint64) []api.Sample {
	l := make([]api.Sample, n)
	for i := range l {
		l[i] = api.Sample{T: int64(i) * 10, V: value(i)}
	}
	return l
}

// counted returns n samples with the values 0, 1 and so on, which are encoded by their differences in bits.
func counted(n int) []api.Sample {
	return regular(n, func(i int) uint64 { return uint64(i) })
}

// equal returns n samples with the same value, which are encoded by runs if there are more than eight.
func equal(n int) []api.Sample {
	return regular(n, func(int) uint64 { return 5 })
}

// alternating returns n samples with two values in turn, which are encoded by a dictionary if there are more than one.
func alternating(n int) []api.Sample {
	return regular(n, func(i int) uint64 { return -uint64(i % 2) })
}

// after returns samples that are later than the same ones by some time.
func after(delay int64, l []api.Sample) []api.Sample {
	var later []api.Sample
	for _, x := range l {
		later = append(later, api.Sample{T: x.T + delay, V: x.V})
	}
	return later
}

// sizes are numbers of samples at the bounds of the numbers of chunks.
var sizes = []int{1, 119, 120, 121, 240, 241}

// sized returns blocks whose series have the numbers of samples at those bounds, each alone and all together, for each encoding of values.
func sized() [][]api.Series {
	var blocks [][]api.Series
	for _, samples := range []func(int) []api.Sample{counted, equal, alternating} {
		var up, down []api.Series
		for i, n := range sizes {
			blocks = append(blocks, list(series("job=node", samples(n))))
			labels := fmt.Sprintf("job=node n=%d", i)
			up = append(up, series(labels, samples(n)))
			down = append(down, series(labels, samples(sizes[len(sizes)-1-i])))
		}
		blocks = append(blocks, up, down)
	}
	return blocks
}

// labeled returns blocks with labels at the edges of what is permitted.
func labeled() [][]api.Series {
	return [][]api.Series{
		list(series("", at(1))),
		list(series("a=1", at(1))),
		list(series("a=", at(1))),
		list(series("a=a", at(1))),
		list(series("a=1 b=2 c=3", at(1))),
		list(series("a=b b=a", at(1))),
		list(series("a=b b=c c=a d=", at(1))),
		list(series("", at(1)), series("a=1", at(2))),
		list(series("", at(1)), series("a=", at(2)), series("a=1", at(3))),
		list(series("a=1", at(1)), series("a=1 b=2", at(1)), series("a=1 c=2", at(1)), series("b=2", at(1))),
		list(series("a=1 b=2 c=3", at(1)), series("a=1 b=2 c=4", at(1)), series("a=1 b=3 c=3", at(1)), series("a=2 b=2 c=3", at(1))),
		list(series("1=a 2=b a=1 b=2", at(1)), series("1=b 2=a", at(1)), series("a=2 b=1", at(1))),
		list(series("a=10", at(1)), series("a=9", at(1)), series("aa=0", at(1)), series("b=", at(1)), series("b=aa", at(1))),
		list(series("A=z", at(1)), series("a=Z", at(1)), series("a=\x7f", at(1)), series("a=ä", at(1)), series("a=\xff", at(1)), series("\xff=\x01", at(1))),
		list(series("a=<", at(1)), series("<=1", at(2)), series("<=<", at(3))),
	}
}

// extreme returns blocks with times and values at the bounds of their types, and with values that are special as floats.
func extreme() [][]api.Series {
	values := []uint64{0, math.MaxUint64, 1 << 63, 1, 0, 0x7ff0000000000000, 0x7ff8000000000001, 0xfff0000000000000, 1<<63 - 1}
	return [][]api.Series{
		list(series("a=1", at(least))),
		list(series("a=1", at(greatest))),
		list(series("a=1", at(least, greatest))),
		list(series("a=1", at(least, least+1, -1, 0, 1, greatest-1, greatest))),
		list(series("a=1", []api.Sample{{T: 0, V: 0}}), series("a=2", []api.Sample{{T: 0, V: 1 << 63}}), series("a=3", []api.Sample{{T: 0, V: math.MaxUint64}})),
		list(series("a=1", regular(len(values), func(i int) uint64 { return values[i] }))),
		list(series("a=1", []api.Sample{{T: least, V: math.MaxUint64}, {T: greatest, V: 0}}), series("a=2", []api.Sample{{T: -1, V: 0}, {T: 0, V: 1 << 63}})),
	}
}

// large returns blocks with numbers whose encodings have two bytes: those of series, symbols, chunks, and their lengths.
func large() [][]api.Series {
	return [][]api.Series{
		ascending(127),
		ascending(128),
		ascending(129),
		ascending(300),
		list(series("a=1", counted(127*api.ChunkSize))),
		list(series("a=1", counted(127*api.ChunkSize+1)), series("a=2", alternating(129*api.ChunkSize))),
		list(series("a=1", equal(500)), series("a=2", alternating(1)), series("a=3", counted(1000)), series("b=1", alternating(119)), series("c=1", counted(1))),
		list(series("a=1", slices.Concat(equal(120), after(10000, alternating(120)), after(20000, counted(120)), after(30000, equal(7))))),
	}
}

// ascending returns a block with n series, of 1 to 4 samples.
func ascending(n int) []api.Series {
	var b []api.Series
	for i := range n {
		b = append(b, series(fmt.Sprintf("job=node n=%06d", i), after(int64(-i), counted(1+i%4))))
	}
	return b
}

// blocks returns blocks: ordinary ones, and those at the edges of what is permitted.
func blocks() [][]api.Series {
	return slices.Concat([][]api.Series{nil, {}}, sized(), labeled(), extreme(), large())
}

// crowd returns n series in ascending order, which share their samples. Many of them share one of their labels.
func crowd(n int, samples []api.Sample) []api.Series {
	const each = 1024
	var names, values []string
	for i := range max(each, n/each+1) {
		names = append(names, string(binary.BigEndian.AppendUint16(nil, uint16(i))))
		values = append(values, fmt.Sprintf("%04d", i))
	}
	l := make([]api.Series, n)
	for i := range l {
		l[i] = api.Series{Labels: []api.Label{{Name: "m", Value: names[i/each]}, {Name: "n", Value: values[i%each]}}, Samples: samples}
	}
	return l
}

// guarded returns a copy of series, with others in the memory behind each list.
func guarded(l []api.Series) []api.Series {
	c := make([]api.Series, 0, len(l)+1)
	for _, s := range append(slices.Clone(l), series("behind=1", at(1))) {
		c = append(c, api.Series{
			Labels:  append(slices.Clone(s.Labels), api.Label{Name: "b", Value: "behind"})[:len(s.Labels)],
			Samples: append(slices.Clone(s.Samples), api.Sample{T: 7, V: 77})[:len(s.Samples)],
		})
	}
	return c[:len(l)]
}

// isGuarded reports whether series and the memory behind each list are as guarded has returned them for l.
func isGuarded(got, l []api.Series) bool {
	want := guarded(l)
	return len(got) == len(l) && slices.EqualFunc(got[:len(l)+1], want[:len(l)+1], func(x, y api.Series) bool {
		return len(x.Labels) == len(y.Labels) && slices.Equal(x.Labels[:len(x.Labels)+1], y.Labels[:len(y.Labels)+1]) &&
			len(x.Samples) == len(y.Samples) && slices.Equal(x.Samples[:len(x.Samples)+1], y.Samples[:len(y.Samples)+1])
	})
}

// overwriteSeries changes every label and sample of l, and then every series.
func overwriteSeries(l []api.Series) {
	for i := range l {
		for j := range l[i].Labels {
			l[i].Labels[j] = api.Label{Name: "overwritten", Value: "overwritten"}
		}
		for j := range l[i].Samples {
			l[i].Samples[j] = api.Sample{T: -77, V: 77}
		}
		l[i] = series("overwritten=1", at(77))
	}
}

// overwrite changes bytes, and the memory behind them.
func overwrite(b []byte) {
	b = b[:cap(b)]
	for i := range b {
		b[i] = ^b[i]
	}
}

// data is the data of the four sections of a file.
type data [4]string

func dataOf(s layout.Sections) data {
	var d data
	for i, x := range s {
		d[i] = string(x)
	}
	return d
}

// fileOf returns the file with some data, as layer 16 writes it.
func fileOf(d data) string {
	var s layout.Sections
	for i, x := range d {
		s[i] = []byte(x)
	}
	return string(layout.Assemble(s))
}

// shown returns bytes for a message, cut off if they are many.
func shown(s string) string {
	if len(s) > 80 {
		return fmt.Sprintf("%x... (%d bytes)", s[:80], len(s))
	}
	return fmt.Sprintf("%x", s)
}

func shownData(d data) string {
	return fmt.Sprintf("[%s, %s, %s, %s]", shown(d[0]), shown(d[1]), shown(d[2]), shown(d[3]))
}

// shownSeries returns series for a message.
func shownSeries(l []api.Series) string {
	var parts []string
	for _, s := range l[:min(len(l), 8)] {
		for _, x := range s.Labels[:min(len(s.Labels), 8)] {
			parts = append(parts, fmt.Sprintf("%.20q=%.20q", x.Name, x.Value))
		}
		parts = append(parts, fmt.Sprint(s.Samples[:min(len(s.Samples), 8)], len(s.Samples)))
	}
	return fmt.Sprintf("%v (%d series)", parts, len(l))
}

// number returns the encoding of a number, as the standard library writes it.
func number(x int) string { return string(binary.AppendUvarint(nil, uint64(x))) }

// chunksOf returns the encodings of the chunks of a series, as layer 9 writes them.
func chunksOf(s api.Series) []string {
	var l []string
	for from := 0; from < len(s.Samples); from += 120 {
		b, _ := chunk.Encode(s.Samples[from:min(from+120, len(s.Samples))])
		l = append(l, string(b))
	}
	return l
}

// stringsOf returns the distinct names and values of all labels in ascending order, and the index of each.
func stringsOf(b []api.Series) ([]string, map[string]int) {
	index := map[string]int{}
	for _, s := range b {
		for _, x := range s.Labels {
			index[x.Name], index[x.Value] = 0, 0
		}
	}
	var table []string
	for s := range index {
		table = append(table, s)
	}
	sort.Strings(table)
	for i, s := range table {
		index[s] = i
	}
	return table, index
}

// reference writes the sections of a block from the definitions, with the lower layers for chunks only.
func reference(b []api.Series) data {
	table, index := stringsOf(b)
	d := data{number(len(table)), number(len(b)), "", ""}
	for _, s := range table {
		d[0] += number(len(s)) + s
	}
	with := map[[2]int][]int{} // the indices of a name and a value, and the numbers of the series
	for i, s := range b {
		d[1] += number(len(s.Labels))
		for _, x := range s.Labels {
			label := [2]int{index[x.Name], index[x.Value]}
			d[1] += number(label[0]) + number(label[1])
			with[label] = append(with[label], i)
		}
		chunks := chunksOf(s)
		d[1] += number(len(chunks))
		for _, x := range chunks {
			d[1] += number(len(x))
		}
		d[2] += strings.Join(chunks, "")
	}
	d[3] = referencePostings(len(table), with)
	return d
}

// referencePostings tries all pairs of indices in order.
func referencePostings(n int, with map[[2]int][]int) string {
	s := number(len(with))
	for name := range n {
		for value := range n {
			numbers := with[[2]int{name, value}]
			if len(numbers) == 0 {
				continue
			}
			s += number(name) + number(value) + number(len(numbers)) + number(numbers[0])
			for i, x := range numbers[1:] {
				s += number(x - numbers[i])
			}
		}
	}
	return s
}

// expectSections checks all that Sections does.
func expectSections(t *testing.T, b []api.Series, want data, e api.Errno) {
	t.Helper()
	argument := guarded(b)
	if got, f := Sections(argument); f != e || dataOf(got) != want {
		t.Errorf("Sections of %s returns %s and %v, want %s and %v", shownSeries(b), shownData(dataOf(got)), f, shownData(want), e)
	}
	if !isGuarded(argument, b) {
		t.Errorf("Sections has changed %s to %s", shownSeries(b), shownSeries(argument))
	}
}

// expectFile checks all that Encode or Raw does.
func expectFile(t *testing.T, name string, encode func(l []api.Series) ([]byte, api.Errno), l []api.Series, want string, e api.Errno) {
	t.Helper()
	argument := guarded(l)
	if got, f := encode(argument); f != e || string(got) != want {
		t.Errorf("%s of %s returns %s and %v, want %s and %v", name, shownSeries(l), shown(string(got)), f, shown(want), e)
	}
	if !isGuarded(argument, l) {
		t.Errorf("%s has changed %s to %s", name, shownSeries(l), shownSeries(argument))
	}
}

func expectEncode(t *testing.T, b []api.Series, want string, e api.Errno) {
	t.Helper()
	expectFile(t, "Encode", Encode, b, want, e)
}

func expectRaw(t *testing.T, l []api.Series, want string, e api.Errno) {
	t.Helper()
	expectFile(t, "Raw", Raw, l, want, e)
}

// expectBlock checks that all functions encode a block.
func expectBlock(t *testing.T, b []api.Series, want data) {
	t.Helper()
	expectSections(t, b, want, api.OK)
	expectEncode(t, b, fileOf(want), api.OK)
	expectRaw(t, b, fileOf(want), api.OK)
}

// expectNoBlock checks that Sections and Encode reject series.
func expectNoBlock(t *testing.T, b []api.Series, e api.Errno) {
	t.Helper()
	expectSections(t, b, data{}, e)
	expectEncode(t, b, "", e)
}

// sectionsFor returns the sections of a block, for which there must be no error.
func sectionsFor(t *testing.T, b []api.Series) layout.Sections {
	t.Helper()
	s, e := Sections(b)
	if e != api.OK {
		t.Fatalf("Sections of %s returns %v", shownSeries(b), e)
	}
	return s
}

// P17.1

func unhex(t *testing.T, s string) string {
	t.Helper()
	b, e := hex.DecodeString(strings.ReplaceAll(s, " ", ""))
	if e != nil {
		t.Fatal(e)
	}
	return string(b)
}

// written are blocks with the data of their sections, written out by hand.
var written = []struct {
	block    []api.Series
	symbols  string
	series   string
	chunks   string
	postings string
}{
	{nil, "00", "00", "", "00"},
	{
		list(series("", []api.Sample{{T: 1, V: 2}})),
		"00",
		"01  00 01 12",
		"01 00 0000000000000001 0000000000000002",
		"00",
	},
	{
		list(series("a=1", []api.Sample{{T: 1, V: 2}})),
		"02  01 31  01 61",
		"01  01 01 00 01 12",
		"01 00 0000000000000001 0000000000000002",
		"01  01 00 01 00",
	},
	{
		list(series("a=1", []api.Sample{{T: 10, V: 5}, {T: 20, V: 5}, {T: 30, V: 5}})),
		"02  01 31  01 61",
		"01  01 01 00 01 14",
		"01 02 000000000000000a 85 0000000000000001 40",
		"01  01 00 01 00",
	},
	// Labels that series share, a value that is also a name, and an empty value.
	{
		list(
			series("", []api.Sample{{T: 1, V: 2}}),
			series("a=1", []api.Sample{{T: 10, V: 5}, {T: 20, V: 5}, {T: 30, V: 5}}),
			series("a=1 b=a", []api.Sample{{T: -1, V: 0}}),
			series("b=", []api.Sample{{T: least, V: 0}, {T: greatest, V: math.MaxUint64}}),
		),
		"04  00  01 31  01 61  01 62",
		"04  00 01 12  01 02 01 01 14  02 02 01 03 02 01 12  01 03 00 01 1d",
		"01 00 0000000000000001 0000000000000002  01 02 000000000000000a 85 0000000000000001 40" +
			"01 00 ffffffffffffffff 0000000000000000  03 01 8000000000000000 bf 81 0000000000000000 ffffffffffffffff 40",
		"03  02 01 02 01 01  03 00 01 03  03 02 01 02",
	},
	// Values at the bounds of their type, and a name that is greater than its value.
	{
		list(series("x=", []api.Sample{{T: least, V: 0}, {T: 0, V: 1 << 63}, {T: greatest, V: math.MaxUint64}})),
		"02  00  01 78",
		"01  01 01 00 01 28",
		"01 02 8000000000000000 f8000000000000000bf8000000000000000600 1c1fbfffffffffffffff80",
		"01  01 00 01 00",
	},
	// A chunk with a dictionary.
	{
		list(series("a=1", alternating(4))),
		"02  01 31  01 61",
		"01  01 01 00 01 1d",
		"03 03 0000000000000000 85 0040000000000000003fffffffffffffffd4",
		"01  01 00 01 00",
	},
	// A chunk with a run, and one of full size.
	{
		list(series("a=1", equal(9)), series("a=2", equal(120))),
		"03  01 31  01 32  01 61",
		"02  01 02 00 01 15  01 02 01 01 23",
		"02 08 0000000000000000 85 00000000000000000510" +
			"02 77 0000000000000000 85 000000000000000000000000000000000000000000000bdc",
		"02  02 00 01 00  02 01 01 01",
	},
	// Several chunks, and a series behind them.
	{
		list(series("a=1", equal(241)), series("a=2", equal(1))),
		"03  01 31  01 32  01 61",
		"02  01 02 00 03 23 23 12  01 02 01 01 12",
		"02 77 0000000000000000 85 000000000000000000000000000000000000000000000bdc" +
			"02 77 00000000000004b0 85 000000000000000000000000000000000000000000000bdc" +
			"01 00 0000000000000960 0000000000000005  01 00 0000000000000000 0000000000000005",
		"02  02 00 01 00  02 01 01 01",
	},
}

func TestWrittenBlocks(t *testing.T) {
	for _, c := range written {
		expectBlock(t, c.block, data{unhex(t, c.symbols), unhex(t, c.series), unhex(t, c.chunks), unhex(t, c.postings)})
	}
}

// writtenFiles are blocks with their encodings, with all checksums as computed by another program.
var writtenFiles = []struct {
	block []api.Series
	file  string
}{
	{
		nil,
		"54 53 42 4b 01  01 01 00 648298e7  02 01 00 3d3cdee5  03 00 3c41f46a  04 01 00 8f4053e1" +
			"05 04 05 0c 13 19 d476cf2f  251e8ca4 4b 42 53 54",
	},
	{
		list(series("a=1", []api.Sample{{T: 1, V: 2}})),
		"54 53 42 4b 01  01 05 02 01 31 01 61 549eadaf  02 06 01 01 01 00 01 12 5730f5e0" +
			"03 12 01 00 0000000000000001 0000000000000002 3228add1  04 05 01 01 00 01 00 4a1529a5" +
			"05 04 05 10 1c 34 7a6cb4f8  90d8ffe7 4b 42 53 54",
	},
	{
		list(
			series("", []api.Sample{{T: 1, V: 2}}),
			series("a=1", []api.Sample{{T: 10, V: 5}, {T: 20, V: 5}, {T: 30, V: 5}}),
			series("a=1 b=a", []api.Sample{{T: -1, V: 0}}),
			series("b=", []api.Sample{{T: least, V: 0}, {T: greatest, V: math.MaxUint64}}),
		),
		"54 53 42 4b 01  01 08 04 00 01 31 01 61 01 62 7e1ac92f" +
			"02 15 04 00 01 12 01 02 01 01 14 02 02 01 03 02 01 12 01 03 00 01 1d 9ce5f45e" +
			"03 55 01 00 0000000000000001 0000000000000002 01 02 000000000000000a 85 0000000000000001 40" +
			"01 00 ffffffffffffffff 0000000000000000 03 01 8000000000000000 bf 81 0000000000000000 ffffffffffffffff 40 8ecc13c5" +
			"04 0e 03 02 01 02 01 01 03 00 01 03 03 02 01 02 9f80e316" +
			"05 05 05 13 2e 89 01 156e40ba  3018685c 4b 42 53 54",
	},
}

func TestWrittenFiles(t *testing.T) {
	for _, c := range writtenFiles {
		file := unhex(t, c.file)
		expectEncode(t, c.block, file, api.OK)
		expectRaw(t, c.block, file, api.OK)
	}
}

func TestBlocks(t *testing.T) {
	for _, b := range blocks() {
		expectBlock(t, b, reference(b))
	}
}

func TestTags(t *testing.T) {
	for _, n := range sizes[1:] {
		for tag, samples := range map[byte][]api.Sample{chunk.Bits: counted(n), chunk.Runs: equal(n), chunk.Dictionary: alternating(n)} {
			s := sectionsFor(t, list(series("a=1", samples)))
			if got := s[layout.Chunks-1][0]; got != tag {
				t.Errorf("the first chunk of %d samples has the tag %d, want %d", n, got, tag)
			}
		}
	}
}

// sectionOf returns one section of a block.
func sectionOf(t *testing.T, b []api.Series, id int) []byte {
	t.Helper()
	return sectionsFor(t, b)[id-1]
}

func TestSymbols(t *testing.T) {
	for _, b := range blocks() {
		want, e := symbols.Encode(model.Symbols(b))
		if got := sectionOf(t, b, layout.Symbols); e != api.OK || !bytes.Equal(got, want) {
			t.Errorf("the section Symbols of %s is %s, want %s", shownSeries(b), shown(string(got)), shown(string(want)))
		}
	}
}

// recordsOf returns the records of a block, and all of its chunks.
func recordsOf(b []api.Series) ([]records.Record, string) {
	var l []records.Record
	all := ""
	for _, s := range b {
		x := records.Record{Labels: s.Labels}
		for _, c := range chunksOf(s) {
			x.Chunks = append(x.Chunks, len(c))
			all += c
		}
		l = append(l, x)
	}
	return l, all
}

func TestSeries(t *testing.T) {
	for _, b := range blocks() {
		l, _ := recordsOf(b)
		want, e := records.Encode(model.Symbols(b), l)
		if got := sectionOf(t, b, layout.Series); e != api.OK || !bytes.Equal(got, want) {
			t.Errorf("the section Series of %s is %s, want %s", shownSeries(b), shown(string(got)), shown(string(want)))
		}
	}
}

func TestChunks(t *testing.T) {
	for _, b := range blocks() {
		_, want := recordsOf(b)
		if got := sectionOf(t, b, layout.Chunks); string(got) != want {
			t.Errorf("the section Chunks of %s is %s, want %s", shownSeries(b), shown(string(got)), shown(want))
		}
	}
}

func TestPostings(t *testing.T) {
	for _, b := range blocks() {
		var sets [][]api.Label
		for _, s := range b {
			sets = append(sets, s.Labels)
		}
		want, e := postings.Encode(model.Symbols(b), postings.Build(sets))
		if got := sectionOf(t, b, layout.Postings); e != api.OK || !bytes.Equal(got, want) {
			t.Errorf("the section Postings of %s is %s, want %s", shownSeries(b), shown(string(got)), shown(string(want)))
		}
	}
}

// TestLengths reads each chunk where the lengths say that it is.
func TestLengths(t *testing.T) {
	for _, b := range blocks() {
		s := sectionsFor(t, b)
		l, e := records.Decode(model.Symbols(b), s[layout.Series-1])
		rest := s[layout.Chunks-1]
		if e != api.OK || len(l) != len(b) || records.Total(l) != len(rest) {
			t.Fatalf("%s has %d records with %d bytes of chunks and %v, but the section Chunks has %d", shownSeries(b), len(l), records.Total(l), e, len(rest))
		}
		for i, x := range l {
			parts := chunk.Split(b[i].Samples)
			if !slices.Equal(x.Labels, b[i].Labels) || len(x.Chunks) != len(parts) {
				t.Fatalf("series %d of %s has the record %v", i, shownSeries(b), x)
			}
			for j, length := range x.Chunks {
				got, e := chunk.Decode(rest[:length])
				rest = rest[length:]
				if e != api.OK || !slices.Equal(got, parts[j]) {
					t.Errorf("chunk %d of series %d of %s is %v and %v", j, i, shownSeries(b), got, e)
				}
			}
		}
	}
}

func TestEncodeIsTheFileOfSections(t *testing.T) {
	for _, b := range blocks() {
		want := layout.Assemble(sectionsFor(t, b))
		if got, e := Encode(b); e != api.OK || !bytes.Equal(got, want) {
			t.Errorf("Encode of %s returns %s and %v, want %s", shownSeries(b), shown(string(got)), e, shown(string(want)))
		}
	}
}

// noBlocks returns series that are no block, with the error of each.
func noBlocks() map[api.Errno][][]api.Series {
	return map[api.Errno][][]api.Series{
		api.ErrLimit: {
			list(series("a=>", at(1))),
			list(series(">=1", at(1))),
			list(series("a=1", at(1)), series("b=1 c=>", at(1))),
		},
		api.ErrName: {
			list(series("=1", at(1))),
			list(series("=", at(1))),
			list(series("a=1 =1", at(1))),
			list(series("a=1", at(1)), series("=>", at(1))),
		},
		api.ErrDuplicate: {
			list(series("a=1 a=1", at(1))),
			list(series("a=1 a=2", at(1))),
			list(series("a=1", at(1)), series("a=1 b=2 b=1", at(1))),
		},
		api.ErrOrder: {
			list(series("b=1 a=1", at(1))),
			list(series("a=1 c=1 b=1", at(1))),
			list(series("a=1", at(2, 1))),
			list(series("a=1", at(greatest, least))),
			list(series("a=1", slices.Concat(after(1, counted(120)), counted(1)))),
			list(series("a=2", at(1)), series("a=1", at(1))),
			list(series("a=1", at(1)), series("", at(1))),
			list(series("a=1", at(1)), series("a=3", at(1)), series("a=2", at(1))),
		},
		api.ErrEmpty: {
			list(series("", nil)),
			list(series("a=1", nil)),
			list(series("a=1", []api.Sample{})),
			list(series("a=1", at(1)), series("a=2", nil), series("a=3", at(1))),
		},
		api.ErrTime: {
			list(series("a=1", at(1, 1))),
			list(series("a=1", at(least, least))),
			list(series("a=1", at(1, 2)), series("a=2", at(1, 2, 2))),
			list(series("a=1", []api.Sample{{T: 1, V: 2}, {T: 1, V: 2}})),
			list(series("a=1", append(counted(120), api.Sample{T: 1190}))),
		},
		api.ErrSet: {
			list(series("", at(1)), series("", at(2))),
			list(series("a=1", at(1)), series("a=1", at(2))),
			list(series("a=1", at(1)), series("a=2 b=3", at(2)), series("a=2 b=3", at(1))),
		},
	}
}

func TestNoBlocks(t *testing.T) {
	for e, all := range noBlocks() {
		for _, b := range all {
			expectNoBlock(t, b, e)
		}
	}
}

func TestFirstError(t *testing.T) {
	for _, c := range []struct {
		b []api.Series
		e api.Errno
	}{
		{list(series("=> a=1 a=1", nil)), api.ErrName},
		{list(series("a=> a=1", nil)), api.ErrLimit},
		{list(series("b=1 b=2 a=1", at(1, 1))), api.ErrDuplicate},
		{list(series("b=1 a=1 a=2", nil)), api.ErrOrder},
		{list(series("a=1", at(3, 3, 2))), api.ErrTime},
		{list(series("a=1", at(3, 2, 2))), api.ErrOrder},
		{list(series("a=1", at(1)), series("a=1", nil)), api.ErrEmpty},
		{list(series("a=1", at(1)), series("a=1", at(1, 1))), api.ErrTime},
		{list(series("a=2", at(1)), series("a=1", at(1, 1))), api.ErrTime},
		{list(series("a=1", at(1)), series("a=1", at(1)), series("=1", nil)), api.ErrSet},
		{list(series("a=2", at(1)), series("a=1", at(1)), series("=1", nil)), api.ErrOrder},
	} {
		expectNoBlock(t, c.b, c.e)
	}
}

// tooLarge returns series of which there are too many, or which have too many samples, and those that have other errors too.
func tooLarge() [][]api.Series {
	samples := make([]api.Sample, api.MaxSamples+1)
	for i := range samples {
		samples[i].T = int64(i)
	}
	return [][]api.Series{
		crowd(api.MaxSeries+1, at(1)),
		append(list(series("=1", nil)), crowd(api.MaxSeries, nil)...),
		list(series("a=1", samples)),
		list(series("a=1", at(1)), series("b=1", samples[1:])),
		list(series("=1", nil), series("=1", samples)),
	}
}

func TestTooLarge(t *testing.T) {
	for _, l := range tooLarge() {
		if s, e := Sections(l); e != api.ErrLimit || dataOf(s) != (data{}) {
			t.Errorf("Sections of %s returns %s and %v", shownSeries(l), shownData(dataOf(s)), e)
		}
		if b, e := Encode(l); e != api.ErrLimit || len(b) != 0 {
			t.Errorf("Encode of %s returns %s and %v", shownSeries(l), shown(string(b)), e)
		}
		if b, e := Raw(l); e != api.ErrLimit || len(b) != 0 {
			t.Errorf("Raw of %s returns %s and %v", shownSeries(l), shown(string(b)), e)
		}
	}
}

// separate checks that the results of a call share no memory with its argument, with those of another call, or with each other.
func separate(t *testing.T, call func(l []api.Series) [][]byte, l []api.Series) {
	t.Helper()
	want := fmt.Sprint(call(l))
	argument := guarded(l)
	kept := call(argument)
	for i := range kept {
		changed := call(argument)
		overwrite(changed[i])
		changed[i] = kept[i]
		if fmt.Sprint(changed) != want {
			t.Errorf("a change of one section of %s has changed another", shownSeries(l))
		}
	}
	if !isGuarded(argument, l) {
		t.Errorf("a change of a result has changed %s to %s", shownSeries(l), shownSeries(argument))
	}
	if fmt.Sprint(kept) != want || fmt.Sprint(call(argument)) != want {
		t.Errorf("a change of a result for %s has changed another result", shownSeries(l))
	}
	overwriteSeries(argument)
	if fmt.Sprint(kept) != want || fmt.Sprint(call(l)) != want {
		t.Errorf("a change of %s has changed a result", shownSeries(l))
	}
}

// fewBlocks returns blocks without those that have many samples or series.
func fewBlocks() [][]api.Series {
	b := slices.Concat(sized(), labeled(), extreme())
	for _, c := range written {
		b = append(b, c.block)
	}
	return b
}

func TestResultsShareNoMemory(t *testing.T) {
	for _, b := range fewBlocks() {
		separate(t, func(l []api.Series) [][]byte {
			s, _ := Sections(l)
			return s[:]
		}, b)
		separate(t, func(l []api.Series) [][]byte {
			file, _ := Encode(l)
			return [][]byte{file}
		}, b)
		separate(t, func(l []api.Series) [][]byte {
			file, _ := Raw(l)
			return [][]byte{file}
		}, b)
	}
}

// P17.2

// shuffled returns series, labels and samples in any order.
func shuffled(source *rand.Rand, b []api.Series) []api.Series {
	l := guarded(b)
	source.Shuffle(len(l), func(i, j int) { l[i], l[j] = l[j], l[i] })
	for _, s := range l {
		source.Shuffle(len(s.Labels), func(i, j int) { s.Labels[i], s.Labels[j] = s.Labels[j], s.Labels[i] })
		source.Shuffle(len(s.Samples), func(i, j int) { s.Samples[i], s.Samples[j] = s.Samples[j], s.Samples[i] })
	}
	return l
}

// reversed returns series, labels and samples in descending order.
func reversed(b []api.Series) []api.Series {
	l := guarded(b)
	slices.Reverse(l)
	for _, s := range l {
		slices.Reverse(s.Labels)
		slices.Reverse(s.Samples)
	}
	return l
}

func TestRawOfOtherOrders(t *testing.T) {
	source := rand.New(rand.NewSource(1))
	for _, b := range blocks() {
		want := fileOf(reference(b))
		expectRaw(t, reversed(b), want, api.OK)
		for range 3 {
			expectRaw(t, shuffled(source, b), want, api.OK)
		}
	}
}

// orders returns the elements of l in every order.
func orders[T any](l []T) [][]T {
	if len(l) == 0 {
		return [][]T{nil}
	}
	var all [][]T
	for i, x := range l {
		for _, rest := range orders(slices.Delete(slices.Clone(l), i, i+1)) {
			all = append(all, append(rest, x))
		}
	}
	return all
}

func TestRawOfEveryOrder(t *testing.T) {
	b := list(series("", at(1, 2, 3)), series("a=1 b=2 c=3", at(4, 5)), series("a=1 c=", at(6)), series("b=1", at(7, 8, 9, 10)))
	want := fileOf(reference(b))
	for _, l := range orders(b) {
		expectRaw(t, l, want, api.OK)
	}
	for _, labels := range orders(b[1].Labels) {
		l := slices.Clone(b)
		l[1].Labels = labels
		expectRaw(t, l, want, api.OK)
	}
	for _, samples := range orders(b[3].Samples) {
		l := slices.Clone(b)
		l[3].Samples = samples
		expectRaw(t, l, want, api.OK)
	}
}

func TestRawOfWrittenFile(t *testing.T) {
	c := writtenFiles[2]
	l := list(
		series("b=a a=1", []api.Sample{{T: -1, V: 0}}),
		series("b=", []api.Sample{{T: greatest, V: math.MaxUint64}, {T: least, V: 0}}),
		series("a=1", []api.Sample{{T: 30, V: 5}, {T: 10, V: 5}, {T: 20, V: 5}}),
		series("", []api.Sample{{T: 1, V: 2}}),
	)
	expectRaw(t, l, unhex(t, c.file), api.OK)
	expectNoBlock(t, l, api.ErrOrder)
}

// TestRawMovesSamplesToOtherChunks sorts samples before they are divided.
func TestRawMovesSamplesToOtherChunks(t *testing.T) {
	for _, n := range []int{121, 240, 241, 500} {
		samples := counted(n)
		want := fileOf(reference(list(series("a=1", samples))))
		expectRaw(t, list(series("a=1", slices.Concat(samples[120:], samples[:120]))), want, api.OK)
		expectRaw(t, list(series("a=1", slices.Concat(samples[1:], samples[:1]))), want, api.OK)
	}
}

func TestErrorsOfRaw(t *testing.T) {
	for _, c := range []struct {
		l []api.Series
		e api.Errno
	}{
		{list(series("=1", at(1))), api.ErrName},
		{list(series("b=1 a=1 =1", at(2, 1))), api.ErrName},
		{list(series("b=1 => a=>", nil)), api.ErrName},
		{list(series("a=>", at(1))), api.ErrLimit},
		{list(series(">=1", at(1))), api.ErrLimit},
		{list(series("a=1 a=1 b=>", nil)), api.ErrLimit},
		{list(series("a=> =1", at(1))), api.ErrLimit},
		{list(series("a=1 a=1", at(1))), api.ErrDuplicate},
		{list(series("a=1 b=2 a=2", at(1))), api.ErrDuplicate},
		{list(series("a=1 b=2 a=1", nil)), api.ErrDuplicate},
		{list(series("", nil)), api.ErrEmpty},
		{list(series("b=2 a=1", []api.Sample{})), api.ErrEmpty},
		{list(series("b=2", at(1)), series("a=1", nil), series("b=2", at(1))), api.ErrEmpty},
		{list(series("a=1", at(1, 1))), api.ErrTime},
		{list(series("a=1", at(1, 2, 1))), api.ErrTime},
		{list(series("a=1", append(counted(241), api.Sample{T: 0}))), api.ErrTime},
		{list(series("b=2", at(1)), series("b=2", at(3, 2, 3)), series("a=1", nil)), api.ErrTime},
		{list(series("", at(1)), series("", at(1))), api.ErrSet},
		{list(series("a=1 b=2", at(1)), series("b=2 a=1", at(2))), api.ErrSet},
		{list(series("a=1", at(1)), series("b=1", at(1)), series("a=1", at(1))), api.ErrSet},
		{list(series("a=1", at(1)), series("a=1", at(1)), series("b=1", nil)), api.ErrEmpty},
	} {
		expectRaw(t, c.l, "", c.e)
	}
}

// P17.3

// pool is a choice of series with and without errors, of which many have the same labels, at once or when they are sorted.
func pool() []api.Series {
	return []api.Series{
		series("", at(5)),
		series("a=1", at(5)),
		series("a=1", counted(121)),
		series("a=1 b=2", at(least, greatest)),
		series("b=2 a=1", at(1, 2)),
		series("b=2", at(3, 1, 2)),
		series("b=2", alternating(4)),
		series("a=1 b=2 a=1", at(1)),
		series("=1 a=1", at(1)),
		series("b=1 a=>", at(1)),
		series("a=1", nil),
		series("=1", nil),
		series("a=1", at(5, 5)),
		series("b=2 a=1", at(2, 3, 3)),
		series("c=1", at(9, 8, 7)),
	}
}

// listsOf returns all lists of at most n of some series.
func listsOf(n int, choice []api.Series) [][]api.Series {
	all := [][]api.Series{nil}
	for from := 0; n > 0; n-- {
		shorter := all[from:]
		from = len(all)
		for _, l := range shorter {
			for _, s := range choice {
				all = append(all, append(slices.Clone(l), s))
			}
		}
	}
	return all
}

// expectList checks all functions for series that may be a block or not, and returns whether they are one, and whether they are one when they are normalized.
func expectList(t *testing.T, l []api.Series) (bool, bool) {
	t.Helper()
	checked := model.Check(l)
	if checked == api.OK {
		expectBlock(t, l, reference(l))
	} else {
		expectNoBlock(t, l, checked)
	}
	b, normalized := model.Normalize(l)
	if normalized == api.OK {
		expectRaw(t, l, fileOf(reference(b)), api.OK)
	} else {
		expectRaw(t, l, "", normalized)
	}
	return checked == api.OK, normalized == api.OK
}

func TestListsOfSeries(t *testing.T) {
	areBlocks, others := 0, 0
	for _, l := range listsOf(3, pool()) {
		isBlock, isRaw := expectList(t, l)
		switch {
		case isBlock:
			areBlocks++
		case isRaw:
			others++
		}
	}
	if areBlocks < 10 || others < 50 {
		t.Errorf("only %d lists are blocks, and %d others are encoded by Raw", areBlocks, others)
	}
}

// randomBlock returns a block with few different labels, and with samples of all kinds.
func randomBlock(source *rand.Rand) []api.Series {
	var l []api.Series
	for range source.Intn(5) {
		l = append(l, randomSeries(source))
	}
	slices.SortFunc(l, func(x, y api.Series) int { return strings.Compare(key(x.Labels), key(y.Labels)) })
	return slices.CompactFunc(l, func(x, y api.Series) bool { return slices.Equal(x.Labels, y.Labels) })
}

// key returns a string that is less than another if the labels are less. (They have single letters and digits.)
func key(l []api.Label) string {
	s := ""
	for _, x := range l {
		s += x.Name + x.Value + " "
	}
	return s
}

func randomSeries(source *rand.Rand) api.Series {
	var s api.Series
	for _, name := range "abcd1" {
		if source.Intn(3) == 0 {
			s.Labels = append(s.Labels, api.Label{Name: string(name), Value: string("12ab"[source.Intn(4)])})
		}
	}
	slices.SortFunc(s.Labels, func(x, y api.Label) int { return strings.Compare(x.Name, y.Name) })
	samples := []func(int) []api.Sample{counted, equal, alternating}[source.Intn(3)]
	s.Samples = after(source.Int63()-source.Int63(), samples(1+source.Intn(1+source.Intn(300))))
	for i := range s.Samples {
		switch source.Intn(20) {
		case 0:
			s.Samples[i].V = source.Uint64()
		case 1:
			s.Samples[i].T += source.Int63n(9)
		}
	}
	return s
}

func TestRandomBlocks(t *testing.T) {
	source := rand.New(rand.NewSource(2))
	for range 1000 {
		b := randomBlock(source)
		want := reference(b)
		expectBlock(t, b, want)
		expectRaw(t, shuffled(source, b), fileOf(want), api.OK)
	}
}

// change makes one change to series, which need not be a block then.
func change(source *rand.Rand, l []api.Series) {
	if len(l) == 0 {
		return
	}
	i, j := source.Intn(len(l)), source.Intn(len(l))
	s := &l[i]
	at := source.Intn(len(s.Samples))
	switch source.Intn(6) {
	case 0:
		s.Labels = l[j].Labels
	case 1:
		s.Samples[at].T = s.Samples[0].T
	case 2:
		s.Samples = nil
	case 3:
		s.Labels = append(s.Labels, api.Label{Name: "a", Value: "1"})
	case 4:
		s.Labels = append(s.Labels, api.Label{Name: "", Value: more})
	case 5:
		l[i], l[j] = l[j], l[i]
	}
}

func TestRandomLists(t *testing.T) {
	source := rand.New(rand.NewSource(3))
	count := map[[2]bool]int{}
	for range 1000 {
		l := guarded(randomBlock(source))
		if source.Intn(3) == 0 {
			l = shuffled(source, l)
		}
		change(source, l)
		isBlock, isRaw := expectList(t, l)
		count[[2]bool{isBlock, isRaw}]++
	}
	if len(count) != 3 || count[[2]bool{true, true}] < 50 || count[[2]bool{false, true}] < 50 || count[[2]bool{false, false}] < 50 {
		t.Errorf("the lists are blocks and encoded by Raw this often: %v", count)
	}
}

// decoded reads the sections of a file with the lower layers.
func decoded(t *testing.T, file []byte) []api.Series {
	t.Helper()
	s, e := layout.Parse(file)
	if e != api.OK {
		t.Fatalf("Parse of %s returns %v", shown(string(file)), e)
	}
	table, e := symbols.Decode(s[0])
	if e != api.OK {
		t.Fatalf("Decode of the symbols %s returns %v", shown(string(s[0])), e)
	}
	l, e := records.Decode(table, s[1])
	if e != api.OK || records.Unused(table, l) != -1 {
		t.Fatalf("Decode of the records %s returns %v, or a symbol is not used", shown(string(s[1])), e)
	}
	if _, e := postings.Decode(table, len(l), s[3]); e != api.OK {
		t.Fatalf("Decode of the postings %s returns %v", shown(string(s[3])), e)
	}
	var b []api.Series
	rest := s[2]
	for _, x := range l {
		one := api.Series{Labels: x.Labels}
		for _, length := range x.Chunks {
			samples, e := chunk.Decode(rest[:length])
			if e != api.OK {
				t.Fatalf("Decode of the chunk %s returns %v", shown(string(rest[:length])), e)
			}
			one.Samples = append(one.Samples, samples...)
			rest = rest[length:]
		}
		b = append(b, one)
	}
	return b
}

func TestFilesAreDecodedAsTheirBlocks(t *testing.T) {
	all := blocks()
	source := rand.New(rand.NewSource(4))
	for range 300 {
		all = append(all, randomBlock(source))
	}
	for _, b := range all {
		file, e := Encode(b)
		if e != api.OK {
			t.Fatalf("Encode of %s returns %v", shownSeries(b), e)
		}
		if got := decoded(t, file); !isGuarded(guarded(got), b) {
			t.Errorf("the file of %s is that of %s", shownSeries(b), shownSeries(got))
		}
	}
}

// variants returns different blocks that are much alike.
func variants() [][]api.Series {
	b := list(series("a=1", at(1, 2, 3)), series("b=2", at(1)))
	return [][]api.Series{
		nil,
		b[:1],
		b[1:],
		b,
		list(series("", at(1, 2, 3)), series("b=2", at(1))),
		list(series("a=", at(1, 2, 3)), series("b=2", at(1))),
		list(series("a=2", at(1, 2, 3)), series("b=2", at(1))),
		list(series("a=1", at(1, 2, 3)), series("b=1", at(1))),
		list(series("a=b", at(1, 2, 3)), series("b=2", at(1))),
		list(series("a=11", at(1, 2, 3)), series("b=2", at(1))),
		list(series("a1=1", at(1, 2, 3)), series("b=2", at(1))),
		list(series("1=a", at(1, 2, 3)), series("b=2", at(1))),
		list(series("a=1", at(1, 2, 3)), series("a=1 b=2", at(1))),
		list(series("a=1 b=2", at(1, 2, 3)), series("b=2", at(1))),
		list(series("a=2", at(1, 2, 3)), series("b=1", at(1))),
		list(series("a=1", at(1)), series("b=2", at(1, 2, 3))),
		list(series("a=1", at(1, 2)), series("b=2", at(1))),
		list(series("a=1", at(1, 3)), series("b=2", at(1))),
		list(series("a=1", at(1, 2, 4)), series("b=2", at(1))),
		list(series("a=1", at(1, 2, 3, 4)), series("b=2", at(1))),
		list(series("a=1", at(1, 2, 3)), series("b=2", at(2))),
		list(series("a=1", at(1, 2, 3)), series("b=2", []api.Sample{{T: 1, V: 1}})),
		list(series("a=1", at(1, 2, 3)), series("b=2", []api.Sample{{T: 1, V: 1001}})),
		list(series("a=1", at(1, 2, 3)), series("b=2", []api.Sample{{T: 1, V: 0}})),
		list(series("a=1", at(1, 2, 3)), series("b=2", []api.Sample{{T: 1, V: 1 << 63}})),
		list(series("a=1 b=2", at(1, 2, 3))),
		list(series("a=2 b=1", at(1, 2, 3))),
		list(series("ab=2", at(1, 2, 3))),
		list(series("a=b2", at(1, 2, 3))),
	}
}

// expectDifferent checks that blocks have the same encoding only if they are equal, and returns the number of the different ones.
func expectDifferent(t *testing.T, all [][]api.Series) int {
	t.Helper()
	blockOf := map[string][]api.Series{}
	for _, b := range all {
		file, e := Encode(b)
		if e != api.OK {
			t.Fatalf("Encode of %s returns %v", shownSeries(b), e)
		}
		if other, ok := blockOf[string(file)]; ok && !isGuarded(guarded(other), b) {
			t.Errorf("%s and %s have the same encoding", shownSeries(b), shownSeries(other))
		}
		blockOf[string(file)] = b
	}
	return len(blockOf)
}

func TestDifferentBlocks(t *testing.T) {
	all := variants()
	if n := expectDifferent(t, all); n != len(all) {
		t.Errorf("%d blocks have %d encodings", len(all), n)
	}
	choice := []api.Series{series("", at(1)), series("", at(2)), series("a=1", at(1)), series("a=1", at(1, 2)), series("a=2", at(1)), series("a=1 b=1", at(1)), series("b=1", at(1)), series("b=1", at(2))}
	var some [][]api.Series
	for _, l := range listsOf(4, choice) {
		if b, e := model.Normalize(l); e == api.OK {
			some = append(some, b)
		}
	}
	different := expectDifferent(t, some)
	if different < 50 || different == len(some) {
		t.Errorf("%d blocks, some of them equal, have %d encodings", len(some), different)
	}
}

func TestBlocksAtTheLimits(t *testing.T) {
	samples := make([]api.Sample, api.MaxSamples)
	for i := range samples {
		samples[i].T = int64(i)
	}
	for _, c := range []struct {
		b      []api.Series
		chunks int
	}{
		{crowd(api.MaxSeries, at(1)), api.MaxSeries * 18},
		{list(series("a=1", samples[:1]), series("b=1", samples[1:])), 18 + 139810*35 + 22},
	} {
		s, e := Sections(c.b)
		if e != api.OK || !strings.HasPrefix(string(s[layout.Series-1]), number(len(c.b))) || len(s[layout.Chunks-1]) != c.chunks {
			t.Errorf("Sections of %s returns %s and %v, with %d bytes of chunks", shownSeries(c.b), shownData(dataOf(s)), e, len(s[layout.Chunks-1]))
		}
	}
}

func TestExample(t *testing.T) {
	b, e := Encode(nil)
	if len(b) != 50 || e != api.OK {
		t.Errorf("the encoding of the empty block is %s and %v", shown(string(b)), e)
	}
	expectSections(t, nil, data{"\x00", "\x00", "", "\x00"}, api.OK)
}

func TestCallsAreIndependent(t *testing.T) {
	all := fewBlocks()
	var group sync.WaitGroup
	for n := range 8 {
		group.Go(func() {
			for i := n; i < len(all); i += 3 {
				want := reference(all[i])
				expectBlock(t, all[i], want)
				expectRaw(t, reversed(all[i]), fileOf(want), api.OK)
			}
		})
	}
	group.Wait()
}
