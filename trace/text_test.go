package trace_test

import (
	"fmt"
	"math"
	"math/rand"
	"slices"
	"strings"
	"testing"

	"kurgan/api"
	"kurgan/cell"
	"kurgan/trace"
)

func TestLines(t *testing.T) {
	for _, c := range []struct {
		entry trace.Entry
		line  string
	}{
		{trace.Entry{Worker: 0, Op: cell.Op{Kind: 3, Cell: 3, Old: 1, New: 2, Done: true}}, "0 swap 3 1 2 yes\n"},
		{trace.Entry{Worker: 15, Op: cell.Op{Kind: 3, Cell: 0, Old: 1, New: 1}}, "15 swap 0 1 1 no\n"},
		{trace.Entry{Worker: 7, Op: cell.Op{Kind: 1, Cell: 1048575, Old: -5, New: -5, Done: true}}, "7 read 1048575 -5 -5 yes\n"},
		{trace.Entry{Worker: 1, Op: cell.Op{Kind: 2, Old: 10, New: -1, Done: true}}, "1 write 0 10 -1 yes\n"},
		{trace.Entry{Worker: 1, Op: cell.Op{Kind: 4, New: 1e18 - 1, Old: 1 - 1e18, Cell: 1e18 - 1, Done: true}}, "1 add 999999999999999999 -999999999999999999 999999999999999999 yes\n"},
		{trace.Entry{Worker: 3}, "3 -\n"},
		{trace.Entry{Worker: 3, Op: cell.Op{Kind: 1}}, "3 read 0 0 0 no\n"},
		{trace.Entry{}, "0 -\n"},
	} {
		if s, e := trace.Write([]trace.Entry{c.entry}); s != c.line || e != api.OK {
			t.Errorf("%q, %d", s, e)
		}
		if l, at, e := trace.Read(c.line); !slices.Equal(l, []trace.Entry{c.entry}) || at != 0 || e != api.OK {
			t.Error(l, at, e)
		}
		hold(t, c.line)
	}
	for _, l := range [][]trace.Entry{nil, {}} {
		if s, e := trace.Write(l); s != "" || e != api.OK {
			t.Errorf("%q, %d", s, e)
		}
	}
	if l, at, e := trace.Read(""); len(l) != 0 || at != 0 || e != api.OK {
		t.Error(l, at, e)
	}
}

// Reading the text of entries yields these entries.
func TestRoundTrip(t *testing.T) {
	r := rand.New(rand.NewSource(521))
	for range 2000 {
		l := someEntries(r, r.Intn(30))
		kept := slices.Clone(l)
		s, e := trace.Write(l)
		if s != spelled(l) || e != api.OK || !slices.Equal(l, kept) {
			t.Fatal(l, s, e)
		}
		if read, at, e := trace.Read(s); !slices.Equal(read, l) || at != 0 || e != api.OK {
			t.Fatal(l, read, at, e)
		}
		hold(t, s)
	}
}

// Entries that have no line, alone and among others.
func TestWriteErrors(t *testing.T) {
	op := cell.Op{Kind: 3, Cell: 3, Old: 1, New: 2, Done: true}
	with := func(by func(*cell.Op)) trace.Entry {
		other := op
		by(&other)
		return trace.Entry{Worker: 3, Op: other}
	}
	var wrongs []trace.Entry
	for _, worker := range []int{-1, 16, 17, math.MaxInt, math.MinInt, 1 << 32} {
		wrongs = append(wrongs, trace.Entry{Worker: worker}, trace.Entry{Worker: worker, Op: op})
	}
	for _, kind := range []int{0, -1, 5, 6, math.MaxInt, math.MinInt, 1<<32 + 1} {
		wrongs = append(wrongs, with(func(o *cell.Op) { o.Kind = kind }))
	}
	for _, at := range []int{-1, -2, math.MinInt} {
		wrongs = append(wrongs, with(func(o *cell.Op) { o.Cell = at }))
	}
	for _, o := range []cell.Op{{Cell: 1}, {Old: 1}, {New: 1}, {Done: true}, {Cell: -1}, {Old: -1}, {New: -1}, {Kind: -1}, {Kind: 5}} {
		wrongs = append(wrongs, trace.Entry{Worker: 3, Op: o})
	}
	r := rand.New(rand.NewSource(522))
	for _, entry := range wrongs {
		for range 5 {
			l := someEntries(r, r.Intn(5))
			l = slices.Insert(l, r.Intn(len(l)+1), entry)
			if s, e := trace.Write(l); s != "" || e != api.ErrForm {
				t.Errorf("Write(%v) = %q, %d", l, s, e)
			}
		}
	}
	// both errors at once
	for _, entry := range wrongs {
		for _, at := range []int{0, 5000, 10000} {
			l := make([]trace.Entry, 10001)
			l[at] = entry
			if s, e := trace.Write(l); s != "" || e != api.ErrBig {
				t.Errorf("%d", e)
			}
			if s, e := trace.Write(l[:at+1]); s != "" || at < 10000 && e != api.ErrForm {
				t.Errorf("%d", e)
			}
		}
	}
}

func TestManyEntries(t *testing.T) {
	long := trace.Entry{Worker: 15, Op: cell.Op{Kind: cell.Write, Cell: 1e18 - 1, Old: 1 - 1e18, New: 1 - 1e18, Done: true}}
	for _, entry := range []trace.Entry{{}, long} {
		l := slices.Repeat([]trace.Entry{entry}, 10000)
		s, e := trace.Write(l)
		if s != spelled(l) || e != api.OK {
			t.Error(len(s), e)
		}
		hold(t, s)
		for _, more := range []int{1, 2, 10000} {
			if s, e := trace.Write(append(slices.Clone(l), l[:more]...)); s != "" || e != api.ErrBig {
				t.Error(len(s), e)
			}
		}
	}
}

// Numbers that are written, though they are too long to be read.
func TestLongNumbers(t *testing.T) {
	for _, n := range []int{1e18, math.MaxInt, 1<<62 + 7} {
		for _, op := range []cell.Op{{Kind: 1, Cell: n, Done: true}, {Kind: 2, Old: n}, {Kind: 3, New: n, Done: true}, {Kind: 4, Old: -n}, {Kind: 4, New: -n}} {
			l := []trace.Entry{{Worker: 2}, {Worker: 1, Op: op}}
			s, e := trace.Write(l)
			if s != spelled(l) || e != api.OK {
				t.Errorf("%q, %d", s, e)
			}
			wrong(t, s, 2)
		}
	}
	l := []trace.Entry{{Op: cell.Op{Kind: 4, Old: math.MinInt, New: math.MinInt}}}
	if s, e := trace.Write(l); s != "0 add 0 -9223372036854775808 -9223372036854775808 no\n" || e != api.OK {
		t.Errorf("%q, %d", s, e)
	}
}

// Each number of a line: of 18 and of 19 digits, and in other forms; each word; what stands between.
func TestReadErrors(t *testing.T) {
	words := strings.Split("7 swap 3 -1 2 yes", " ")
	try := func(at int, word string, right bool) {
		t.Helper()
		changed := slices.Clone(words)
		changed[at] = word
		line := strings.Join(changed, " ") + "\n"
		if right {
			if l, _, e := trace.Read(line); e != api.OK || len(l) != 1 {
				t.Errorf("Read(%q): %d", line, e)
			}
			hold(t, line)
			return
		}
		wrong(t, line, 1)
		wrong(t, "0 -\n"+line+"x\n", 2)
	}
	nines := strings.Repeat("9", 18)
	for at := range words {
		for _, word := range []string{"", "x", "-", "+", "--1", "+1", "-x", "1x", "x1", "1.0", "1e3", "0x1", "1_0", "٣", "\xff", "\x00", "٣", " 1", "1 ", "\t1", "1\t", "1\r", "- 1", "-\xff"} {
			try(at, word, false)
		}
	}
	for at, places := range map[int][]bool{0: {true, false, false}, 2: {true, true, false}, 3: {true, true, true}, 4: {true, true, true}} {
		for _, n := range []string{"0", "9", "10", "15"} {
			try(at, n, places[0])
		}
		for _, n := range []string{"16", "100", nines, "1" + strings.Repeat("0", 17)} {
			try(at, n, places[1])
		}
		for _, n := range []string{"-1", "-15", "-16", "-" + nines, "-1" + strings.Repeat("0", 17)} {
			try(at, n, places[2])
		}
		for _, n := range []string{"00", "01", "07", "-0", "-00", "-01", "1" + strings.Repeat("0", 18), nines + "9", "-" + nines + "9", "-1" + strings.Repeat("0", 18), "9223372036854775807", "-9223372036854775808", "18446744073709551617", strings.Repeat("9", 100), "0" + nines} {
			try(at, n, false)
		}
	}
	for _, word := range []string{"read", "write", "swap", "add"} {
		try(1, word, true)
	}
	for _, word := range []string{"Read", "SWAP", "reads", "rea", "cas", "get", "set", "bump", "none", "1", "3", "yes", "swap swap", "ŝwap"} {
		try(1, word, false)
	}
	try(5, "yes", true)
	try(5, "no", true)
	for _, word := range []string{"Yes", "NO", "y", "true", "false", "1", "0", "yes yes", "yesno", "none", "yes ", "no\r", "no\t"} {
		try(5, word, false)
	}
	for _, line := range []string{
		"7 swap 3 -1 2", "7 swap 3 -1", "7 swap 3 yes", "7 swap", "7", "swap 3 -1 2 yes", "7 3 -1 2 yes", "7 swap 3 -1 2 0 yes", "7 swap 3 -1 2 yes no", "7 swap 3 -1 2 yes -", "7 - 3", "7 - swap 3 -1 2 yes", "- 7", "-", "7 --", "7-", "-7 -", "7 -1", "7  -", " 7 -", "7 - ", "7\t-", "7 -\r", "7 −", "16 -", "-1 -", "-0 -", "07 -", "00 -", "1000000000000000000 -", "x -", " -", "", " ", "#", "# x", "\xff", "7 - # x",
		"7  swap 3 -1 2 yes", "7 swap  3 -1 2 yes", "7 swap 3  -1 2 yes", "7 swap 3 -1  2 yes", "7 swap 3 -1 2  yes", " 7 swap 3 -1 2 yes", "7 swap 3 -1 2 yes ", "7\tswap 3 -1 2 yes", "7 swap 3 -1 2 yes\r", "7 swap 3 -1\u00a02 yes", "7 swap 3 -12 yes", "7 swap 3 - 1 2 yes", "7, swap 3 -1 2 yes",
	} {
		wrong(t, line+"\n", 1)
		wrong(t, "0 -\n0 -\n"+line+"\n0 -\n", 3)
		if line != "" {
			wrong(t, line, 1)
			wrong(t, "0 -\n"+line, 2)
		}
	}
	for _, line := range []string{"7 swap 3 -1 2 yes", "7 -"} { // without its line feed
		wrong(t, line, 1)
		wrong(t, line+"\n"+line, 2)
		wrong(t, line+"\n\n", 2)
		wrong(t, "\n"+line+"\n", 1)
		wrong(t, line+"\r\n", 1)
		hold(t, line+"\n"+line+"\n")
	}
}

// Texts cut short, and changed at each place.
func TestChangedTexts(t *testing.T) {
	r := rand.New(rand.NewSource(523))
	pieces := []string{"0", "1", "9", "-", " ", "  ", "\n", "\n\n", "\r\n", "\t", "x", "yes", "no", "swap", "0 -\n", "ü", "\xff", "\x00"}
	for range 25 {
		s := spelled(someEntries(r, 1+r.Intn(4)))
		for at := range len(s) {
			hold(t, s[:at])
			hold(t, s[at:])
			hold(t, s[:at]+s[at+1:])
			for b := range 256 {
				hold(t, s[:at]+string([]byte{byte(b)})+s[at+1:])
			}
			for _, piece := range pieces {
				hold(t, s[:at]+piece+s[at:])
				hold(t, s[:at]+piece)
				hold(t, s+piece+s)
			}
		}
	}
}

func TestDrawnTexts(t *testing.T) {
	r := rand.New(rand.NewSource(524))
	bits := []string{"0", "1", "15", "16", "-", "-1", " ", " ", " ", "\n", "\n", "read", "swap", "yes", "no", "999999999999999999", "0 -\n", "3 add 1 2 3 yes\n", " 1 2 3 ", "x"}
	met := map[api.Errno]int{}
	for range 200000 {
		s := ""
		for range r.Intn(8) {
			s += bits[r.Intn(len(bits))]
		}
		hold(t, s)
		_, _, e := trace.Read(s)
		met[e]++
	}
	if met[api.OK] < 1000 || met[api.ErrForm] < 1000 {
		t.Error(met)
	}
}

// 1048576 bytes and one more; there may be more entries than Write takes.
func TestLongTexts(t *testing.T) {
	s := strings.Repeat("7 -\n", 262144)
	if l, at, e := trace.Read(s); len(l) != 262144 || at != 0 || e != api.OK || l[262143] != (trace.Entry{Worker: 7}) {
		t.Error(len(l), at, e)
	}
	hold(t, s)
	for _, longer := range []string{s + "\n", s + "x", s + s, "x" + s, s[:1048575] + "ü", strings.Repeat("x", 1048577), strings.Repeat("\n", 1048577)} {
		if l, at, e := trace.Read(longer); l != nil || at != 0 || e != api.ErrBig {
			t.Error(len(l), at, e)
		}
	}
	wrong(t, s[:1048575], 262144)
	wrong(t, s[:1048575]+"x", 262144)
	wrong(t, s[:1048572]+"7 -\r", 262144)
	wrong(t, strings.Repeat("x", 1048576), 1)
	wrong(t, strings.Repeat("\n", 1048576), 1)
	wrong(t, "0 add 3 "+strings.Repeat("9", 1048567)+"\n", 1)
	line := "15 write 123456789012345678 1 -1 no\n"
	many := strings.Repeat(line, 1048576/len(line))
	hold(t, many)
	hold(t, many+"x")
}

// No two results share memory.
func TestEntriesAreNew(t *testing.T) {
	s := "0 -\n3 add 1 2 3 yes\n4 -\n"
	first, _, _ := trace.Read(s)
	second, _, _ := trace.Read(s)
	for at := range first[:cap(first)] {
		first[:cap(first)][at] = trace.Entry{Worker: 9}
	}
	if text, _ := trace.Write(second); text != s {
		t.Error(text)
	}
}

// plainCount is the chapter's Count.
func plainCount(l []trace.Entry) trace.Sums {
	var s trace.Sums
	kinds, cells := map[int]int{}, map[int]int{}
	for _, entry := range l {
		if entry.Op == (cell.Op{}) {
			s.Quiet++
			continue
		}
		kinds[entry.Op.Kind]++
		cells[entry.Op.Cell]++
		if entry.Op.Kind == 3 && !entry.Op.Done {
			s.Failed++
		}
	}
	s.Reads, s.Writes, s.Swaps, s.Adds = kinds[1], kinds[2], kinds[3], kinds[4]
	s.Cell = -1
	most := 0
	for at, times := range cells {
		if times > most || times == most && at < s.Cell {
			s.Cell, most = at, times
		}
	}
	return s
}

func TestCount(t *testing.T) {
	entry := func(kind, at int, done bool) trace.Entry {
		return trace.Entry{Worker: 4, Op: cell.Op{Kind: kind, Cell: at, Old: 1, Done: done}}
	}
	for _, c := range []struct {
		l    []trace.Entry
		want trace.Sums
	}{
		{nil, trace.Sums{Cell: -1}}, {[]trace.Entry{{}, {Worker: 5}}, trace.Sums{Quiet: 2, Cell: -1}}, {[]trace.Entry{{Worker: -1}}, trace.Sums{Quiet: 1, Cell: -1}},
		{[]trace.Entry{entry(1, 5, true), entry(2, 7, true), entry(3, 7, true), entry(4, 9, true), {}}, trace.Sums{Reads: 1, Writes: 1, Swaps: 1, Adds: 1, Quiet: 1, Cell: 7}},
		{[]trace.Entry{entry(3, 5, false), entry(3, 4, true), entry(3, 5, true), entry(3, 4, false), entry(3, 6, false)}, trace.Sums{Swaps: 5, Failed: 3, Cell: 4}},
		{[]trace.Entry{entry(1, 9, false), entry(2, 9, false), entry(4, 8, false)}, trace.Sums{Reads: 1, Writes: 1, Adds: 1, Cell: 9}},
		{[]trace.Entry{entry(0, 9, true), entry(5, 9, false), entry(-1, 3, false), {}, {}, {}}, trace.Sums{Quiet: 3, Cell: 9}},
		{[]trace.Entry{{Op: cell.Op{Done: true}}}, trace.Sums{Cell: 0}}, {[]trace.Entry{{Op: cell.Op{Old: 1}}, entry(1, 2, true)}, trace.Sums{Reads: 1, Cell: 0}},
		{[]trace.Entry{entry(1, 2, true), entry(1, -2, true), entry(1, 0, true)}, trace.Sums{Reads: 3, Cell: -2}},
		{[]trace.Entry{entry(1, math.MinInt, true), entry(1, math.MaxInt, true)}, trace.Sums{Reads: 2, Cell: math.MinInt}},
		{[]trace.Entry{entry(1, math.MaxInt, true)}, trace.Sums{Reads: 1, Cell: math.MaxInt}},
	} {
		kept := slices.Clone(c.l)
		if got := trace.Count(c.l); got != c.want || !slices.Equal(c.l, kept) {
			t.Errorf("Count(%v) = %v, not %v", c.l, got, c.want)
		}
	}
}

func TestCountDrawn(t *testing.T) {
	r := rand.New(rand.NewSource(525))
	for range 5000 {
		var l []trace.Entry
		for range r.Intn(30) {
			entry := trace.Entry{Worker: r.Intn(18) - 1}
			if r.Intn(4) > 0 {
				entry.Op = cell.Op{Kind: r.Intn(7) - 1, Cell: r.Intn(5) - 1, Old: r.Intn(2), New: r.Intn(2), Done: r.Intn(2) == 0}
			}
			l = append(l, entry)
		}
		kept := slices.Clone(l)
		if got := trace.Count(l); got != plainCount(l) || !slices.Equal(l, kept) {
			t.Fatal(fmt.Sprint(l), got, plainCount(l))
		}
	}
	for range 20 {
		l := trace.Record(someMachine(r).new(), somePicks(r, 3000))
		if got := trace.Count(l); got != plainCount(l) || got.Reads+got.Writes+got.Swaps+got.Adds+got.Quiet != 3000 {
			t.Fatal(got)
		}
	}
}
