package layout

import (
	"encoding/binary"
	"encoding/hex"
	"fmt"
	"hash/crc32"
	"math/rand"
	"slices"
	"strings"
	"sync"
	"testing"

	"tsblock/api"
	"tsblock/varint"
)

const (
	rightHead = "\x54\x53\x42\x4b\x01"
	rightMark = "\x4b\x42\x53\x54"
)

// The parts of a file, as partsOf returns them.
const (
	partHead     = 0
	partContents = 5 // the frames before are those of the sections, with their identifiers as parts
	partSum      = 6
	partMark     = 7
)

// data is the data of the four sections of a file.
type data [4]string

// found is what is found in a file.
type found struct {
	data    data
	offsets [5]int
}

// number returns the encoding of a number, as the standard library writes it.
func number(x int) string { return string(binary.AppendUvarint(nil, uint64(x))) }

// numbers returns the encodings of numbers, one after the other.
func numbers(l ...int) string {
	s := ""
	for _, x := range l {
		s += number(x)
	}
	return s
}

// sumOf returns the bytes of a checksum, as the standard library computes it.
func sumOf(s string) string {
	return string(binary.LittleEndian.AppendUint32(nil, crc32.ChecksumIEEE([]byte(s))))
}

// withSum returns bytes with their checksum, whatever they are.
func withSum(s string) string { return s + sumOf(s) }

// frame returns the frame of a section.
func frame(id int, s string) string { return withSum(string([]byte{byte(id)}) + number(len(s)) + s) }

// partsOf returns the parts of a file: the head, the frames of the sections and of the table of contents, the checksum and the end mark.
func partsOf(d data) []string {
	parts := []string{rightHead}
	for i, s := range d {
		parts = append(parts, frame(i+1, s))
	}
	offsets := offsetsOf(parts)
	parts = append(parts, frame(5, numbers(offsets[:4]...)))
	return append(parts, sumOf(strings.Join(parts, "")), rightMark)
}

// offsetsOf returns the offsets of the frames in a file.
func offsetsOf(parts []string) [5]int {
	var offsets [5]int
	for i := range offsets {
		offsets[i] = len(strings.Join(parts[:i+1], ""))
	}
	return offsets
}

func fileOf(d data) string { return strings.Join(partsOf(d), "") }

// sealed returns some parts of a file with a checksum and an end mark that are right for them.
func sealed(parts ...string) string { return withSum(strings.Join(parts, "")) + rightMark }

// sectionsOf returns data as sections, with other bytes in the memory behind each of them.
func sectionsOf(d data) Sections {
	var s Sections
	for i, x := range d {
		s[i] = guarded(x)
	}
	return s
}

// guarded returns bytes with others in the memory behind them.
func guarded(s string) []byte { return []byte(s + rightHead)[:len(s)] }

// isGuarded reports whether bytes and the memory behind them are as guarded has returned them.
func isGuarded(b []byte, s string) bool { return string(b[:len(s)+len(rightHead)]) == s+rightHead }

// dataOf returns sections as data.
func dataOf(s Sections) data {
	var d data
	for i, x := range s {
		d[i] = string(x)
	}
	return d
}

// overwrite changes bytes, and the memory behind them.
func overwrite(b []byte) {
	b = b[:cap(b)]
	for i := range b {
		b[i] = ^b[i]
	}
}

// shown returns bytes for a message, cut off if they are many.
func shown(s string) string {
	if len(s) > 80 {
		return fmt.Sprintf("%x... (%d bytes)", s[:80], len(s))
	}
	return fmt.Sprintf("%x", s)
}

func shownData(d data) string {
	return fmt.Sprintf("[%s, %s, %s, %s]", shown(d[0]), shown(d[1]), shown(d[2]), shown(d[3]))
}

// referenceMark returns the error of bytes that begin with a mark.
func referenceMark(s, mark string) api.Errno {
	n := min(len(s), len(mark))
	if s[:n] != mark[:n] {
		return api.ErrMagic
	}
	if n < len(mark) {
		return api.ErrEOF
	}
	return api.OK
}

// referenceSection returns the data and the frame at the beginning of some bytes.
func referenceSection(s string, id int) (string, string, api.Errno) {
	if s == "" {
		return "", "", api.ErrEOF
	}
	if int(s[0]) != id {
		return "", "", api.ErrSection
	}
	n, start, e := varint.Get([]byte(s), 1)
	if e != api.OK {
		return "", "", e
	}
	rest := s[start:]
	if len(rest) < 4 || n > uint64(len(rest)-4) {
		return "", "", api.ErrEOF
	}
	content := rest[:n]
	whole := frame(id, content)
	if s[:len(whole)] != whole {
		return "", "", api.ErrCRC
	}
	return content, whole, api.OK
}

// referenceParse compares each part of a file with what it should be.
func referenceParse(s string) (found, api.Errno) {
	if e := referenceMark(s, rightHead); e != api.OK {
		return found{}, e
	}
	parts := []string{rightHead}
	var contents []string
	rest := s[len(rightHead):]
	for id := 1; id <= 5; id++ {
		content, whole, e := referenceSection(rest, id)
		if e != api.OK {
			return found{}, e
		}
		parts, contents, rest = append(parts, whole), append(contents, content), rest[len(whole):]
	}
	f := found{data(contents), offsetsOf(parts)}
	if contents[4] != numbers(f.offsets[:4]...) {
		return found{}, api.ErrTOC
	}
	if e := referenceEnd(s[:len(s)-len(rest)], rest); e != api.OK {
		return found{}, e
	}
	return f, api.OK
}

// referenceEnd returns the error of the bytes that follow the frames of a file.
func referenceEnd(frames, rest string) api.Errno {
	if len(rest) < 4 {
		return api.ErrEOF
	}
	if rest[:4] != sumOf(frames) {
		return api.ErrCRC
	}
	if e := referenceMark(rest[4:], rightMark); e != api.OK {
		return e
	}
	if len(rest) > 8 {
		return api.ErrTrailing
	}
	return api.OK
}

// expect checks all functions that read a file.
func expect(t *testing.T, s string, want found, e api.Errno) {
	t.Helper()
	b := guarded(s)
	if got, f := Parse(b); f != e || dataOf(got) != want.data {
		t.Errorf("Parse of %s returns %s and %v, want %s and %v", shown(s), shownData(dataOf(got)), f, shownData(want.data), e)
	}
	if got, f := Offsets(b); f != e || got != want.offsets {
		t.Errorf("Offsets of %s returns %v and %v, want %v and %v", shown(s), got, f, want.offsets, e)
	}
	certain := e
	if e == api.ErrEOF {
		certain = api.OK
	}
	if got := Certain(b); got != certain {
		t.Errorf("Certain of %s returns %v, want %v", shown(s), got, certain)
	}
	if !isGuarded(b, s) {
		t.Errorf("a function has changed its argument %s", shown(s))
	}
}

// expectFile checks the file with some sections.
func expectFile(t *testing.T, s string, d data, offsets [5]int) {
	t.Helper()
	expect(t, s, found{d, offsets}, api.OK)
	for _, more := range continuations {
		expect(t, s+more, found{}, api.ErrTrailing)
	}
}

// continuations are bytes by which others may go on.
var continuations = []string{"\x00", "\x01", "K", "T", "\x7f", "\x80", "\xff", rightHead, rightMark, strings.Repeat("\x00", 40), strings.Repeat("\xff", 40), sealed(rightHead), fileOf(data{})}

// expectError checks bytes that are no file, and if that is certain, also how they may go on.
func expectError(t *testing.T, s string, e api.Errno) {
	t.Helper()
	expect(t, s, found{}, e)
	if e == api.ErrEOF {
		return
	}
	for _, more := range continuations {
		expect(t, s+more, found{}, e)
	}
}

// expectTooShort checks that a file that is cut off at some offsets is rejected.
func expectTooShort(t *testing.T, s string, cuts []int) {
	t.Helper()
	for _, n := range cuts {
		expectError(t, s[:n], api.ErrEOF)
	}
}

// cutsOf returns offsets where a file is cut: all of them if it is short, or else those at its parts, and some others.
func cutsOf(source *rand.Rand, parts []string) []int {
	n := len(strings.Join(parts, ""))
	if n < 400 {
		return upTo(n)
	}
	cuts := upTo(len(rightHead) + 8)
	for i := range parts {
		at := len(strings.Join(parts[:i], ""))
		for near := at - 6; near < at+7; near++ {
			if near >= 0 && near < n {
				cuts = append(cuts, near)
			}
		}
		cuts = append(cuts, source.Intn(n), n-1-i)
	}
	return cuts
}

// upTo returns the numbers below n.
func upTo(n int) []int {
	l := make([]int, n)
	for i := range l {
		l[i] = i
	}
	return l
}

// allBytes returns the bytes from 0 to 255.
func allBytes() string {
	b := make([]byte, 256)
	for i := range b {
		b[i] = byte(i)
	}
	return string(b)
}

// lengths are those next to the bounds where a length, or the offset of the frame behind, takes one more byte.
var lengths = []int{1, 2, 110, 111, 115, 116, 117, 118, 126, 127, 128, 129, 255, 256, 16370, 16371, 16372, 16373, 16382, 16383, 16384, 16385}

// lookalikes are data that look like parts of a file.
func lookalikes() []string {
	empty := partsOf(data{})
	list := []string{rightHead, rightHead[:4], rightMark, rightHead + rightMark, "\x00", "\x01", "\x01\x00", "\x80\x80", allBytes(), fileOf(data{}), fileOf(data{"a", "b", "c", "d"})}
	list = append(list, empty...)
	list = append(list, empty[partSum]+empty[partMark], sealed(rightHead), strings.Join(empty[1:], ""), strings.Join(empty[:partSum], ""))
	return list
}

// alone returns the sections of which only one has data.
func alone(i int, s string) data {
	var d data
	d[i] = s
	return d
}

// shortFiles returns the sections of short files of all kinds.
func shortFiles() []data {
	all := []data{{}, {"a", "", "bc\x00", "\xff"}, {"", "\x00", "\x00\x00", "\x00\x00\x00"}, {"d", "c", "b", "a"}}
	for i := range 4 {
		all = append(all, alone(i, "x"), alone(i, "\x00"), alone(i, "symbols"))
	}
	for _, s := range lookalikes() {
		if len(s) < 60 {
			all = append(all, data{s, s, s, s})
		}
	}
	return all
}

// manyFiles returns the sections of files of all kinds.
func manyFiles() []data {
	all := shortFiles()
	bytes := allBytes()
	for _, n := range lengths {
		long := strings.Repeat(bytes, n/len(bytes)+1)[:n]
		for i := range 4 {
			all = append(all, alone(i, long))
		}
		all = append(all, data{long, "a", "", long}, data{"", long, long, "b"})
	}
	for _, s := range lookalikes() {
		for i := range 4 {
			all = append(all, alone(i, s))
		}
		all = append(all, data{s, s, s, s}, data{s, "", "a" + s, s + "a"})
	}
	source := rand.New(rand.NewSource(161))
	for range 100 {
		all = append(all, randomData(source))
	}
	return all
}

// randomData returns sections with some bytes each.
func randomData(source *rand.Rand) data {
	var d data
	for i := range d {
		b := make([]byte, source.Intn(1<<source.Intn(9)))
		source.Read(b)
		d[i] = string(b)
	}
	return d
}

// someParts returns the parts of the files in which something is changed.
func someParts() [][]string {
	return [][]string{
		partsOf(data{}),
		partsOf(data{"a", "", "bc\x00", "\xff"}),
		partsOf(data{"series", "series", "series", "series"}),
		partsOf(data{strings.Repeat("x", 200), rightHead, rightMark, frame(5, numbers(5, 11, 17, 23))}),
	}
}

// Types

// The identifiers are constants that fit a byte and an int, and Sections is an array.
func TestIdentifiers(t *testing.T) {
	if got := [...]byte{Symbols, Series, Chunks, Postings, Contents}; got != [...]byte{1, 2, 3, 4, 5} {
		t.Errorf("the identifiers are %v", got)
	}
	const sum float64 = Symbols + Series + Chunks + Postings + Contents
	if sum != 15 {
		t.Errorf("the identifiers are %v together", sum)
	}
	if s := Sections([4][]byte{{1}, nil, nil, {4}}); s[Postings-Symbols][0] != 4 {
		t.Errorf("the last section is %v", s[Postings-Symbols])
	}
}

// P16.1

// written are files as they are computed apart from this package and its tests.
var written = []struct {
	data    data
	offsets [5]int
	parts   []string // hexadecimal
}{
	{data{}, [5]int{5, 11, 17, 23, 29}, []string{
		"5453424b01", "0100be23c258", "02007d70ef73", "03003c41f46a", "0400fbd7b525", "0504050b1117d42f0eff", "1fa03491", "4b425354",
	}},
	{data{"a", "", "bc\x00", "\xff"}, [5]int{5, 12, 18, 27, 34}, []string{
		"5453424b01", "010161aad32ddd", "02007d70ef73", "03036263000905b496", "0401ff02af51cc", "0504050c121bb926dad8", "f02bcc0b", "4b425354",
	}},
	{data{"", strings.Repeat("x", 117), "", ""}, [5]int{5, 11, 134, 140, 146}, []string{
		"5453424b01", "0100be23c258", "0275" + strings.Repeat("78", 117) + "f22cf06a", "03003c41f46a", "0400fbd7b525", "0506050b86018c019420ce40", "5a9c42c3", "4b425354",
	}},
}

// unhex returns the bytes that are written in parts.
func unhex(t *testing.T, parts []string) string {
	b, e := hex.DecodeString(strings.Join(parts, ""))
	if e != nil {
		t.Fatal(e)
	}
	return string(b)
}

func TestWrittenFiles(t *testing.T) {
	for _, c := range written {
		s := unhex(t, c.parts)
		if got := string(Assemble(sectionsOf(c.data))); got != s {
			t.Errorf("the file of %s is %s, want %s", shownData(c.data), shown(got), shown(s))
		}
		expectFile(t, s, c.data, c.offsets)
		if fileOf(c.data) != s {
			t.Errorf("the reference returns %s, want %s", shown(fileOf(c.data)), shown(s))
		}
	}
}

// expectAssembled checks Assemble, and that it leaves the sections and the memory behind them as they are.
func expectAssembled(t *testing.T, d data) {
	t.Helper()
	s := sectionsOf(d)
	if got := string(Assemble(s)); got != fileOf(d) {
		t.Errorf("the file of %s is %s, want %s", shownData(d), shown(got), shown(fileOf(d)))
	}
	for i, x := range s {
		if !isGuarded(x, d[i]) {
			t.Errorf("Assemble has changed the section %d of %s", i, shownData(d))
		}
	}
}

func TestAssemble(t *testing.T) {
	for _, d := range manyFiles() {
		expectAssembled(t, d)
	}
}

// The offsets and lengths take up to four bytes as numbers.
func TestLongSections(t *testing.T) {
	long := strings.Repeat("0123456789abcde", 1<<18)
	for _, d := range []data{
		alone(0, long[:70000]), alone(1, long[:70000]), alone(2, long[:70000]), alone(3, long[:70000]),
		alone(0, long[:1<<21-14]), alone(0, long[:1<<21-13]), // the offset of the next frame is 2^21 - 1 and 2^21
		alone(1, long[:1<<21-1]), alone(2, long[:1<<21]),
	} {
		expectAssembled(t, d)
		expect(t, fileOf(d), found{d, offsetsOf(partsOf(d))}, api.OK)
	}
}

// Empty sections may be nil or not.
func TestEmptySections(t *testing.T) {
	want := fileOf(data{})
	for _, s := range []Sections{{}, {nil, {}, nil, {}}, {{}, {}, {}, {}}, {make([]byte, 0, 9), []byte("abc")[:0], []byte("abc")[3:], nil}} {
		if got := string(Assemble(s)); got != want {
			t.Errorf("the file of %q is %s, want %s", s, shown(got), shown(want))
		}
	}
}

// The sections may share memory.
func TestSharedSections(t *testing.T) {
	b := []byte("abcdefgh")
	for _, c := range []struct {
		s Sections
		d data
	}{
		{Sections{b, b, b, b}, data{"abcdefgh", "abcdefgh", "abcdefgh", "abcdefgh"}},
		{Sections{b[:2], b[1:3], b[2:4], b[:8]}, data{"ab", "bc", "cd", "abcdefgh"}},
		{Sections{b[:0], b[:1], b[:0], b[7:]}, data{"", "a", "", "h"}},
	} {
		if got := string(Assemble(c.s)); got != fileOf(c.d) {
			t.Errorf("the file of %s is %s", shownData(c.d), shown(got))
		}
	}
	if string(b) != "abcdefgh" {
		t.Errorf("Assemble has changed its argument to %q", b)
	}
}

// The result shares memory neither with the sections nor with another result.
func TestAssembleSharesNoMemory(t *testing.T) {
	for _, d := range manyFiles() {
		s := sectionsOf(d)
		one, two := Assemble(s), Assemble(s)
		overwrite(one)
		for i, x := range s {
			if !isGuarded(x, d[i]) {
				t.Errorf("a change of the file changes the section %d of %s", i, shownData(d))
			}
			overwrite(x)
		}
		if string(two) != fileOf(d) {
			t.Errorf("the file of %s has become %s", shownData(d), shown(string(two)))
		}
		if got := string(Assemble(sectionsOf(d))); got != fileOf(d) {
			t.Errorf("the file of %s is %s later", shownData(d), shown(got))
		}
	}
}

// P16.2, P16.3, P16.4

func TestFiles(t *testing.T) {
	for _, d := range manyFiles() {
		parts := partsOf(d)
		expectFile(t, strings.Join(parts, ""), d, offsetsOf(parts))
	}
}

func TestNoBytes(t *testing.T) {
	expectError(t, "", api.ErrEOF)
	for _, b := range [][]byte{nil, {}} {
		s, e := Parse(b)
		offsets, f := Offsets(b)
		if e != api.ErrEOF || dataOf(s) != (data{}) || f != api.ErrEOF || offsets != [5]int{} || Certain(b) != api.OK {
			t.Errorf("for no bytes, the results are %v, %v, %v, %v and %v", s, e, offsets, f, Certain(b))
		}
	}
}

func TestPrefixes(t *testing.T) {
	source := rand.New(rand.NewSource(162))
	for _, d := range manyFiles() {
		parts := partsOf(d)
		expectTooShort(t, strings.Join(parts, ""), cutsOf(source, parts))
	}
}

// Each byte of the head is changed to every other one, where all or fewer of its bytes are there.
func TestHeads(t *testing.T) {
	rest := strings.Join(partsOf(data{"a", "b", "c", "d"})[1:], "")
	for n := range len(rightHead) + 1 {
		if n < len(rightHead) {
			expectError(t, rightHead[:n], api.ErrEOF)
		}
		for i := range n {
			for change := 1; change < 256; change++ {
				b := []byte(rightHead[:n])
				b[i] ^= byte(change)
				expect(t, string(b), found{}, api.ErrMagic)
				expect(t, string(b)+rest, found{}, api.ErrMagic)
				expect(t, sealed(string(b), rest), found{}, api.ErrMagic)
			}
		}
	}
	for _, s := range []string{"T", "TS", "TSB", "TSBK", rightHead} {
		expectError(t, s, api.ErrEOF)
	}
	for _, s := range []string{"\x00", "S", "t", "TT", "TSB\x01", "TSBk", "TSBK\x00", "TSBK\x02", "TSBK1", "KBST", "\x01KBST", "TSKB\x01", "xSBK", "xS", "TxB", "\x01\x00"} {
		expectError(t, s, api.ErrMagic)
	}
}

// fault is a part of a file that is wrong, and its error, which is certain where the part ends.
type fault struct {
	part int
	with string
	e    api.Errno
}

// numberFaults are numbers that are wrong however they go on.
var numberFaults = []struct {
	with string
	e    api.Errno
}{
	{"\x80\x00", api.ErrMinimal},
	{"\x81\x00", api.ErrMinimal},
	{"\xff\x80\x00", api.ErrMinimal},
	{strings.Repeat("\x80", 9) + "\x00", api.ErrMinimal},
	{strings.Repeat("\x80", 9) + "\x02", api.ErrOverflow},
	{strings.Repeat("\xff", 9) + "\x7f", api.ErrOverflow},
	{strings.Repeat("\x80", 10), api.ErrOverflow},
	{strings.Repeat("\xff", 10), api.ErrOverflow},
}

// faultsOfFrame returns the faults of the frame of a section with some data.
func faultsOfFrame(part int, content string) []fault {
	whole, n := frame(part, content), len(content)
	start := len(whole) - n - 4
	id := whole[:1]
	var all []fault
	add := func(e api.Errno, with ...string) { all = append(all, fault{part, strings.Join(with, ""), e}) }
	for other := range 256 {
		if other != part {
			add(api.ErrSection, frame(other, content))
		}
	}
	for _, c := range numberFaults {
		add(c.e, id, c.with)
		add(c.e, id, c.with, content, "\x01\x02\x03\x04")
	}
	add(api.ErrMinimal, withSum(id+number(n | 0x80)[:1]+"\x00"+content))
	if n > 0 {
		add(api.ErrCRC, withSum(id+number(n-1)+content))
		add(api.ErrCRC, id, number(0), content, whole[start+n:])
		add(api.ErrCRC, withSum(id+number(n)+content[1:]+content[:1]+"x"))
	}
	add(api.ErrCRC, withSum(id+number(n+1)+content), "x")
	add(api.ErrCRC, id, number(n+9), content, whole[start+n:], "123456789")
	add(api.ErrCRC, id, number(n), content, sumOf(id+content))
	add(api.ErrCRC, id, number(n), content, sumOf(content))
	add(api.ErrCRC, id, number(n), content, sumOf(number(n)+content))
	add(api.ErrCRC, id, number(n), content, "\x00\x00\x00\x00")
	add(api.ErrCRC, id, number(n), content, reversed(whole[start+n:]))
	for i := start; i < len(whole); i++ {
		for _, change := range []byte{1, 2, 0x40, 0x80, 0xff} {
			b := []byte(whole)
			b[i] ^= change
			add(api.ErrCRC, string(b))
		}
	}
	return all
}

func reversed(s string) string {
	b := []byte(s)
	slices.Reverse(b)
	return string(b)
}

// faultsOfContents returns tables of contents that are not that of the file, in frames that are right.
func faultsOfContents(parts []string) []fault {
	all := offsetsOf(parts)
	right, own := all[:4], all[4]
	var list []string
	for i := range right {
		for _, change := range []int{-5, -2, -1, 1, 2, 4, 5, 6, 128, 1 << 31} {
			l := slices.Clone(right)
			l[i] += change
			if l[i] >= 0 {
				list = append(list, numbers(l...))
			}
		}
		list = append(list, numbers(slices.Delete(slices.Clone(right), i, i+1)...))
		list = append(list, numbers(slices.Insert(slices.Clone(right), i, right[i])...))
		for _, c := range numberFaults {
			list = append(list, numbers(right[:i]...)+c.with+numbers(right[i+1:]...))
		}
		long := number(right[i])
		long = long[:len(long)-1] + string([]byte{long[len(long)-1] | 0x80, 0})
		list = append(list, numbers(right[:i]...)+long+numbers(right[i+1:]...))
	}
	list = append(list, otherOrders(right)...)
	for n := range right {
		list = append(list, numbers(right[:n]...), numbers(right[:n]...)+"\x80", numbers(right[n:]...)+"\x80")
	}
	list = append(list, numbers(right[1:]...), numbers(all[1:]...), numbers(all[:]...), numbers(0, 0, 0, 0), numbers(right[0]-5, right[1]-5, right[2]-5, right[3]-5))
	whole := numbers(right...)
	for _, more := range []string{"\x00", "\x01", "\x80", "\xff", rightMark, rightHead, number(own), "\x00\x00\x00\x00", whole} {
		list = append(list, whole+more)
	}
	for n := 1; n < len(whole); n++ {
		list = append(list, whole[:n], whole[n:], whole[:n]+"\x80"+whole[n:])
	}
	var faults []fault
	for _, s := range list {
		if s != whole {
			faults = append(faults, fault{partContents, frame(5, s), api.ErrTOC})
		}
	}
	return faults
}

// otherOrders returns tables of contents with four offsets in all orders but the ascending one.
func otherOrders(offsets []int) []string {
	var list []string
	for code := range 256 {
		i, j, k, l := code%4, code/4%4, code/16%4, code/64
		if i != j && i != k && i != l && j != k && j != l && k != l && code != 0b11100100 {
			list = append(list, numbers(offsets[i], offsets[j], offsets[k], offsets[l]))
		}
	}
	return list
}

// faultsOfHead returns heads with wrong bytes.
func faultsOfHead() []fault {
	var all []fault
	for i := range rightHead {
		for _, change := range []byte{1, 2, 0x20, 0x80, 0xff} {
			b := []byte(rightHead)
			b[i] ^= change
			all = append(all, fault{partHead, string(b), api.ErrMagic}, fault{partHead, string(b[:i+1]), api.ErrMagic})
		}
	}
	return all
}

// faultsOfTrailer returns checksums and end marks with wrong bytes.
func faultsOfTrailer(parts []string) []fault {
	var all []fault
	sum := parts[partSum]
	frames := strings.Join(parts[:partSum], "")
	for i := range sum {
		for change := 1; change < 256; change++ {
			b := []byte(sum)
			b[i] ^= byte(change)
			all = append(all, fault{partSum, string(b), api.ErrCRC})
		}
	}
	last := parts[partContents]
	for _, s := range []string{"", rightHead, frames[1:], frames[5:], frames[:len(frames)-1], frames[:len(frames)-len(last)], frames + "\x00", frames + rightMark, last, last[:len(last)-4], frames + sum} {
		all = append(all, fault{partSum, sumOf(s), api.ErrCRC})
	}
	for _, s := range []string{reversed(sum), "\x00\x00\x00\x00", "\xff\xff\xff\xff", rightMark, last[len(last)-4:]} {
		all = append(all, fault{partSum, s, api.ErrCRC})
	}
	for i := range rightMark {
		for change := 1; change < 256; change++ {
			b := []byte(rightMark)
			b[i] ^= byte(change)
			all = append(all, fault{partMark, string(b), api.ErrMagic}, fault{partMark, string(b[:i+1]), api.ErrMagic})
		}
	}
	return all
}

// faultsOf returns the faults of all parts of a file.
func faultsOf(parts []string) []fault {
	all := faultsOfHead()
	for i := 1; i <= partContents; i++ {
		content, _, _ := referenceSection(parts[i], i)
		all = append(all, faultsOfFrame(i, content)...)
	}
	all = append(all, faultsOfContents(parts)...)
	return append(all, faultsOfTrailer(parts)...)
}

// until returns the bytes of a file up to a fault, with the fault.
func until(parts []string, f fault) string { return strings.Join(parts[:f.part], "") + f.with }

// framesBehind returns the frames behind a part of a file.
func framesBehind(parts []string, part int) string {
	return strings.Join(parts[part+1:max(partSum, part+1)], "")
}

// Each fault is found where the bytes end, where the file goes on, and where its checksum is made right.
func TestFaults(t *testing.T) {
	count := map[api.Errno]int{}
	for _, parts := range someParts() {
		for _, f := range faultsOf(parts) {
			s := until(parts, f)
			expectError(t, s, f.e)
			expect(t, s+strings.Join(parts[f.part+1:], ""), found{}, f.e)
			if f.part < partSum {
				expect(t, sealed(s, framesBehind(parts, f.part)), found{}, f.e)
			}
			count[f.e]++
		}
	}
	expectCounts(t, count, 50, api.ErrMagic, api.ErrSection, api.ErrMinimal, api.ErrOverflow, api.ErrCRC, api.ErrTOC)
}

// expectCounts checks that each of some errors occurred often.
func expectCounts(t *testing.T, count map[api.Errno]int, least int, errors ...api.Errno) {
	t.Helper()
	for _, e := range errors {
		if count[e] < least {
			t.Errorf("only %d results are %v", count[e], e)
		}
	}
}

// Where two parts are wrong, the error is that of the first one.
func TestFirstOfTwoFaults(t *testing.T) {
	source := rand.New(rand.NewSource(163))
	for _, parts := range someParts() {
		all := faultsOf(parts)
		for i, f := range all {
			for range 8 {
				g := all[i+source.Intn(len(all)-i)]
				if g.part == f.part {
					continue
				}
				s := until(parts, f) + strings.Join(parts[f.part+1:g.part], "") + g.with
				expect(t, s, found{}, f.e)
				expect(t, s+strings.Join(parts[g.part+1:], ""), found{}, f.e)
				expect(t, sealed(s, framesBehind(parts, g.part)), found{}, f.e)
			}
		}
	}
}

// Where a part is wrong and bytes are missing behind it, or others remain at the end, the error is that of the part.
func TestFaultBeforeEnd(t *testing.T) {
	source := rand.New(rand.NewSource(164))
	for _, parts := range someParts() {
		for _, f := range faultsOf(parts) {
			s, rest := until(parts, f), strings.Join(parts[f.part+1:], "")
			expect(t, s+rest[:source.Intn(len(rest)+1)], found{}, f.e)
			expect(t, s+rest+continuations[source.Intn(len(continuations))], found{}, f.e)
		}
	}
}

// Two errors in one part, written out: the first one counts.
func TestFirstErrorOfPart(t *testing.T) {
	parts := partsOf(data{"a", "b", "c", "d"})
	frames := strings.Join(parts[:partSum], "")
	for i := 1; i <= partContents; i++ {
		before, id, other := strings.Join(parts[:i], ""), parts[i][:1], "\x09"
		expectError(t, before+other, api.ErrSection)
		expectError(t, before+other+"\x80\x00", api.ErrSection)
		expectError(t, before+other+parts[i][1:len(parts[i])-1]+"?", api.ErrSection)
		expectError(t, before+id+"\x80\x00", api.ErrMinimal)
		expectError(t, before+id+"\xff\x00"+parts[i][2:len(parts[i])-1]+"?", api.ErrMinimal)
		expectError(t, before+id+strings.Repeat("\xff", 9)+"\x02", api.ErrOverflow)
		expectError(t, before+id+"\x05?????", api.ErrEOF)
		expectError(t, before+id+"\x05????????", api.ErrEOF)
		expectError(t, before+id+"\x05?????????", api.ErrCRC)
	}
	wrong := withSum("\x05\x04\x05\x0b\x11\x17") // the table of contents of four empty sections
	expectError(t, strings.Join(parts[:partContents], "")+wrong[:9]+"?", api.ErrCRC)
	expectError(t, strings.Join(parts[:partContents], "")+wrong, api.ErrTOC)
	expectError(t, strings.Join(parts[:partContents], "")+wrong+"????"+"????"+"?", api.ErrTOC)
	expectError(t, frames+"????", api.ErrCRC)
	expectError(t, frames+"????"+rightMark+"?", api.ErrCRC)
	expectError(t, frames+"???", api.ErrEOF)
	expectError(t, frames+parts[partSum]+"?", api.ErrMagic)
	expectError(t, frames+parts[partSum]+"KBS?", api.ErrMagic)
	expectError(t, frames+parts[partSum]+"KBS?"+rightMark, api.ErrMagic)
	expectError(t, frames+parts[partSum]+"KBS", api.ErrEOF)
	expectError(t, frames+parts[partSum]+rightMark+"?", api.ErrTrailing)
}

// Each frame may end too early: before its identifier, in its length, in its data and in its checksum.
func TestFramesCutOff(t *testing.T) {
	short := []string{"", "\x80", "\xff", "\x80\x80", strings.Repeat("\xff", 9), "\x01", "\x04abc", "\x04abcd123", "\x7f", "\x80\x01"}
	long := []string{"\xff\xff\xff\xff\x07", "\xff\xff\xff\xff\x0f", "\x80\x80\x80\x80\x10", strings.Repeat("\xff", 8) + "\x7f", strings.Repeat("\x80", 9) + "\x01", strings.Repeat("\xff", 9) + "\x01", "\xfc" + strings.Repeat("\xff", 8) + "\x01"}
	for _, parts := range someParts() {
		for i := 1; i <= partContents; i++ {
			before, id := strings.Join(parts[:i], ""), parts[i][:1]
			for n := range parts[i] {
				expectError(t, before+parts[i][:n], api.ErrEOF)
			}
			for _, s := range append(short, long...) {
				expectError(t, before+id+s, api.ErrEOF)
			}
			for _, s := range long {
				rest := parts[i][2:] + framesBehind(parts, i)
				expectError(t, before+id+s+rest, api.ErrEOF)
				expectError(t, sealed(before, id, s, rest), api.ErrEOF)
			}
		}
	}
}

// A length that is wrong leads to a wrong checksum, or beyond the end of the file.
func TestWrongLengths(t *testing.T) {
	for _, parts := range someParts() {
		for i := 1; i <= partContents; i++ {
			before, id := strings.Join(parts[:i], ""), parts[i][:1]
			content, whole, _ := referenceSection(parts[i], i)
			behind := content + whole[len(whole)-4:] + strings.Join(parts[i+1:], "")
			for n := range len(behind) + 10 {
				want := api.ErrCRC
				if n > len(behind)-4 {
					want = api.ErrEOF
				}
				if n != len(content) {
					expect(t, before+id+number(n)+behind, found{}, want)
				}
			}
		}
	}
}

// A frame that is missing, there twice, or in another place is another section.
func TestFramesInOtherOrder(t *testing.T) {
	for _, parts := range someParts() {
		for i := 1; i < partContents; i++ {
			expectError(t, sealed(slices.Concat(parts[:i], parts[i+1:partSum])...), api.ErrSection)
			expectError(t, sealed(slices.Concat(parts[:i+1], parts[i:partSum])...), api.ErrSection)
			for j := i + 1; j <= partContents; j++ {
				l := slices.Clone(parts[:partSum])
				l[i], l[j] = l[j], l[i]
				expectError(t, sealed(l...), api.ErrSection)
			}
		}
		frames := strings.Join(parts[:partContents], "")
		expectError(t, frames+"\x06", api.ErrSection)
		expectError(t, frames+rightMark, api.ErrSection)
		expectError(t, frames+"\x00\x00\x00\x00"+rightMark, api.ErrSection)
	}
}

// Tables of contents of the file with four empty sections, written out.
func TestContents(t *testing.T) {
	parts := partsOf(data{})
	frames := strings.Join(parts[:partContents], "")
	expectFile(t, sealed(frames, frame(5, "\x05\x0b\x11\x17")), data{}, [5]int{5, 11, 17, 23, 29})
	for _, s := range []string{
		"", "\x00", "\x05", "\x05\x0b", "\x05\x0b\x11", // fewer
		"\x05\x0b\x11\x17\x1d", "\x05\x05\x0b\x11\x17", "\x00\x05\x0b\x11\x17", // more
		"\x06\x0b\x11\x17", "\x05\x0a\x11\x17", "\x05\x0b\x12\x17", "\x05\x0b\x11\x18", "\x00\x06\x0c\x12", "\x0b\x11\x17\x1d", // changed
		"\x17\x11\x0b\x05", "\x0b\x05\x11\x17", "\x05\x11\x0b\x17", "\x05\x0b\x17\x11", // in another order
		"\x80", "\x05\x0b\x11\x97", "\x05\x0b\x11\x17\x80", // cut off
		"\x85\x00\x0b\x11\x17", "\x05\x0b\x11\x97\x00", "\x05\x0b\x11\x97\x80\x80\x80\x80\x80\x80\x80\x80\x80\x00", // too long
		"\x05\x0b\x11\x17\x00", "\x05\x0b\x11\x17\xff", "\x05\x0b\x11\x17KBST", // with bytes behind
	} {
		expectError(t, frames+frame(5, s), api.ErrTOC)
		expectError(t, sealed(frames, frame(5, s)), api.ErrTOC)
	}
}

// The trailer is cut off, wrong, or followed by other bytes.
func TestTrailers(t *testing.T) {
	for _, parts := range someParts() {
		frames, sum := strings.Join(parts[:partSum], ""), parts[partSum]
		for n := range 4 {
			expectError(t, frames+sum[:n], api.ErrEOF)
			expectError(t, frames+"????"[:n], api.ErrEOF)
			expectError(t, frames+sum+rightMark[:n], api.ErrEOF)
		}
		expectError(t, frames+rightMark, api.ErrCRC)
		expectError(t, frames+rightMark+sum, api.ErrCRC)
		expectError(t, frames+sumOf(frames+sum), api.ErrCRC)
		for _, s := range []string{"B", "KK", "KBT", "KBSK", "TSBK", "kbst", "\x00\x00\x00\x00", "KB\x53\x00", sum} {
			expectError(t, frames+sum+s, api.ErrMagic)
		}
		for i := range 256 {
			expect(t, frames+sum+rightMark+string([]byte{byte(i)}), found{}, api.ErrTrailing)
		}
		expectError(t, frames+sum+rightMark+frames+sum+rightMark, api.ErrTrailing)
		expectError(t, frames+sum+rightMark+rightMark, api.ErrTrailing)
		expectError(t, sealed(frames, sum, rightMark), api.ErrTrailing)
	}
}

// Bytes that a file begins with are not certain to be wrong, whatever their last one becomes where that is possible.
func TestChangedPrefixes(t *testing.T) {
	count := map[api.Errno]int{}
	for _, parts := range someParts()[:2] {
		s := strings.Join(parts, "")
		for n := range s {
			for change := 1; change < 256; change++ {
				b := []byte(s[:n+1])
				b[n] ^= byte(change)
				count[checkBytes(t, string(b))]++
			}
		}
	}
	expectCounts(t, count, 500, api.ErrEOF, api.ErrMagic, api.ErrSection, api.ErrCRC)
}

// checkBytes compares the functions with the reference, and what they accept with Assemble.
func checkBytes(t *testing.T, s string) api.Errno {
	t.Helper()
	want, e := referenceParse(s)
	expect(t, s, want, e)
	if e == api.OK {
		if got := string(Assemble(sectionsOf(want.data))); got != s {
			t.Errorf("the file of %s is %s, want %s", shownData(want.data), shown(got), shown(s))
		}
	}
	return e
}

// All strings of at most two bytes, at the beginning, behind each part of a file and behind the identifier of each frame.
func TestAllShortBytes(t *testing.T) {
	count := map[api.Errno]int{}
	parts := partsOf(data{"a", "", "\x01", ""})
	for i := range len(parts) + 1 {
		before := strings.Join(parts[:i], "")
		countShortBytes(t, before, count)
		if 0 < i && i < partSum {
			countShortBytes(t, before+parts[i][:1], count)
		}
	}
	expectCounts(t, count, 1, api.OK)
	expectCounts(t, count, 5, api.ErrEOF, api.ErrMagic, api.ErrSection, api.ErrMinimal, api.ErrTrailing)
}

// countShortBytes checks some bytes with all strings of at most two bytes behind them.
func countShortBytes(t *testing.T, before string, count map[api.Errno]int) {
	t.Helper()
	count[checkBytes(t, before)]++
	for x := range 1 << 8 {
		count[checkBytes(t, before+string([]byte{byte(x)}))]++
	}
	for x := range 1 << 16 {
		count[checkBytes(t, before+string([]byte{byte(x >> 8), byte(x)}))]++
	}
}

// Every byte of short files is changed to every other one, and the checksums of the file and of the frame are left or made right.
func TestAllChangedBytes(t *testing.T) {
	count := map[api.Errno]int{}
	for _, d := range []data{{}, {"a", "", "bc\x00", "\xff"}, {"ab", "ab", "ab", "ab"}} {
		parts := partsOf(d)
		for i, part := range parts {
			before, behind := strings.Join(parts[:i], ""), strings.Join(parts[i+1:], "")
			for j := range part {
				for change := 1; change < 256; change++ {
					b := []byte(part)
					b[j] ^= byte(change)
					count[checkBytes(t, before+string(b)+behind)]++
					if i < partSum {
						count[checkBytes(t, sealed(before, string(b), framesBehind(parts, i)))]++
					}
					if 0 < i && i < partSum && j < len(b)-4 {
						count[checkBytes(t, sealed(before, withSum(string(b[:len(b)-4])), framesBehind(parts, i)))]++
					}
				}
			}
		}
	}
	expectCounts(t, count, 500, api.OK, api.ErrEOF, api.ErrMagic, api.ErrSection, api.ErrCRC, api.ErrTOC)
}

// Parts of several files are put together at random.
func TestMixedParts(t *testing.T) {
	source := rand.New(rand.NewSource(165))
	files := someParts()
	for _, d := range shortFiles() {
		files = append(files, partsOf(d))
	}
	count := map[api.Errno]int{}
	for range 100000 {
		var l []string
		own := files[source.Intn(len(files))]
		for i := range own {
			if source.Intn(4) > 0 {
				l = append(l, own[i])
			} else {
				l = append(l, files[source.Intn(len(files))][i])
			}
		}
		s := strings.Join(l, "")
		if source.Intn(2) == 0 {
			s = sealed(l[:partSum]...)
		}
		if source.Intn(4) == 0 {
			s = s[:source.Intn(len(s)+1)]
		}
		if source.Intn(4) == 0 {
			s += continuations[source.Intn(len(continuations))]
		}
		count[checkBytes(t, s)]++
	}
	expectCounts(t, count, 500, api.OK, api.ErrEOF, api.ErrSection, api.ErrCRC, api.ErrTOC, api.ErrTrailing)
}

// Bytes at random stand at the beginning and behind each part of a file.
func TestAnyBytes(t *testing.T) {
	source := rand.New(rand.NewSource(166))
	files := manyFiles()
	for range 100000 {
		parts := partsOf(files[source.Intn(60)])
		b := make([]byte, source.Intn(40))
		source.Read(b)
		for i := range b {
			b[i] >>= source.Intn(9)
		}
		checkBytes(t, strings.Join(parts[:source.Intn(len(parts)+1)], "")+string(b))
	}
}

// Parsing keeps and shares nothing, and no two sections of a result share memory.
func TestParseSharesNoMemory(t *testing.T) {
	for _, d := range manyFiles() {
		s := fileOf(d)
		b := guarded(s)
		one, _ := Parse(b)
		two, _ := Parse(b)
		for i, x := range one {
			overwrite(x)
			for j := i + 1; j < len(one); j++ {
				if string(one[j]) != d[j] {
					t.Errorf("the sections %d and %d of %s share memory", i, j, shownData(d))
				}
			}
		}
		if !isGuarded(b, s) {
			t.Errorf("a change of the sections %s changes the file", shownData(d))
		}
		overwrite(b)
		if dataOf(two) != d {
			t.Errorf("the sections %s have become %s", shownData(d), shownData(dataOf(two)))
		}
		if three, e := Parse([]byte(s)); e != api.OK || dataOf(three) != d {
			t.Errorf("Parse of %s returns %s and %v later", shown(s), shownData(dataOf(three)), e)
		}
	}
}

// A later change of the bytes, or of the offsets that were returned, changes nothing.
func TestOffsetsShareNoMemory(t *testing.T) {
	s := fileOf(data{"a", "b", "c", "d"})
	b := []byte(s)
	one, _ := Offsets(b)
	two, _ := Offsets(b)
	one[0] = -1
	overwrite(b)
	want := offsetsOf(partsOf(data{"a", "b", "c", "d"}))
	if two != want {
		t.Errorf("the offsets have become %v, want %v", two, want)
	}
	if e := Certain(b); e != api.ErrMagic {
		t.Errorf("Certain of the changed file returns %v", e)
	}
	expect(t, s, found{data{"a", "b", "c", "d"}, want}, api.OK)
}

// P16.5

func TestParseInvertsAssemble(t *testing.T) {
	for _, d := range manyFiles() {
		b := Assemble(sectionsOf(d))
		s, e := Parse(b)
		if e != api.OK || dataOf(s) != d {
			t.Errorf("Parse of the file of %s returns %s and %v", shownData(d), shownData(dataOf(s)), e)
		}
		if got := Assemble(s); string(got) != string(b) {
			t.Errorf("the file of %s is %s, want %s", shownData(d), shown(string(got)), shown(string(b)))
		}
		// The offsets are those where the identifiers of the frames stand.
		offsets, e := Offsets(b)
		if e != api.OK || offsets[0] != len(rightHead) {
			t.Errorf("Offsets of the file of %s returns %v and %v", shownData(d), offsets, e)
		}
		for i, at := range offsets {
			if int(b[at]) != Symbols+i || i > 0 && offsets[i-1] >= at {
				t.Errorf("the frame %d of the file of %s is not at %d", i, shownData(d), at)
			}
		}
	}
}

func TestPrefixesOfAssembled(t *testing.T) {
	for _, d := range shortFiles() {
		b := Assemble(sectionsOf(d))
		for n := range b {
			if _, e := Parse(b[:n]); e != api.ErrEOF {
				t.Errorf("Parse of %s returns %v", shown(string(b[:n])), e)
			}
			if offsets, e := Offsets(b[:n:n]); e != api.ErrEOF || offsets != [5]int{} {
				t.Errorf("Offsets of %s returns %v and %v", shown(string(b[:n])), offsets, e)
			}
		}
	}
}

// invert inverts bits from an offset in bits on: those of a word that are 1.
func invert(b []byte, at int, word uint64) {
	for i := range 64 {
		if word>>i%2 == 1 {
			b[(at+i)/8] ^= 1 << ((at + i) % 8)
		}
	}
}

// expectRejected checks that a file with inverted bits is not accepted.
func expectRejected(t *testing.T, b []byte, at int, word uint64) {
	t.Helper()
	invert(b, at, word)
	s, e := Parse(b)
	if e == api.OK || len(s[0])+len(s[1])+len(s[2])+len(s[3]) > 0 {
		t.Errorf("with the bits %x inverted from %d on, Parse returns %v", word, at, e)
	}
	invert(b, at, word)
}

// All changes of bits that lie within 11 consecutive ones, of two short files.
func TestInvertedBitsNearby(t *testing.T) {
	for _, d := range []data{{}, {"a", "", "bc\x00", "\xff"}} {
		b := []byte(fileOf(d))
		for at := range len(b) * 8 {
			for word := uint64(1); word < 1<<11; word += 2 {
				if at+11 <= len(b)*8 || word>>(len(b)*8-at) == 0 {
					expectRejected(t, b, at, word)
				}
			}
		}
		expect(t, string(b), found{d, offsetsOf(partsOf(d))}, api.OK)
	}
}

// All changes of one or two bits that lie within 32 consecutive ones, and some of more bits.
func TestInvertedBits(t *testing.T) {
	source := rand.New(rand.NewSource(167))
	for _, d := range shortFiles() {
		b := []byte(fileOf(d))
		n := len(b) * 8
		for at := range n {
			width := min(32, n-at)
			for i := range width {
				expectRejected(t, b, at, 1|1<<i)
			}
			for range 10 {
				expectRejected(t, b, at, (source.Uint64()|1)%(1<<width))
				expectRejected(t, b, at, (source.Uint64()&source.Uint64()|1)%(1<<width))
			}
			expectRejected(t, b, at, 1<<width-1)
		}
	}
}

func TestInvertedBitsOfLongFiles(t *testing.T) {
	source := rand.New(rand.NewSource(168))
	for _, d := range manyFiles() {
		b := []byte(fileOf(d))
		if len(b) > 20000 {
			continue
		}
		for range 20 {
			at := source.Intn(len(b)*8 - 31)
			expectRejected(t, b, at, 1+source.Uint64()%(1<<32-1))
		}
	}
}

// The trailer and the lengths of the frames are changed in all ways that lie within a byte and a half, beside others.
func TestInvertedBitsOfLengths(t *testing.T) {
	source := rand.New(rand.NewSource(169))
	for _, parts := range someParts() {
		b := []byte(strings.Join(parts, ""))
		for i := 1; i <= partContents; i++ {
			at := len(strings.Join(parts[:i], "")) + 1
			for low := uint64(1); low < 1<<12; low++ {
				expectRejected(t, b, at*8, low)
				expectRejected(t, b, at*8-8, low<<8|uint64(source.Intn(256)))
				expectRejected(t, b, at*8-4, low<<4|source.Uint64()%(1<<16)<<16)
			}
		}
	}
}

// Examples

func TestExample(t *testing.T) {
	b := Assemble(Sections{})
	offsets, e := Offsets(b)
	if len(b) != 47 || e != api.OK || offsets != [5]int{5, 11, 17, 23, 29} {
		t.Errorf("the file with four empty sections has %d bytes, and its offsets are %v and %v", len(b), offsets, e)
	}
}

// P1, P2

func TestCallsAreIndependent(t *testing.T) {
	var group sync.WaitGroup
	shared := []byte(fileOf(data{"a", "b", "c", "d"}))
	for _, d := range manyFiles() {
		group.Go(func() {
			b := Assemble(sectionsOf(d))
			s, e := Parse(b)
			if e != api.OK || dataOf(s) != d || string(b) != fileOf(d) {
				t.Errorf("Parse of the file of %s returns %s and %v", shownData(d), shownData(dataOf(s)), e)
			}
			if got, e := Parse(shared); e != api.OK || dataOf(got) != (data{"a", "b", "c", "d"}) {
				t.Errorf("Parse returns %s and %v beside other calls", shownData(dataOf(got)), e)
			}
			if offsets, e := Offsets(shared); e != api.OK || offsets != [5]int{5, 12, 19, 26, 33} || Certain(shared) != api.OK {
				t.Errorf("Offsets returns %v and %v beside other calls", offsets, e)
			}
		})
	}
	group.Wait()
}
