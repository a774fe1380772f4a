package tree_test

import (
	"math"
	"math/rand"
	"slices"
	"strings"
	"testing"

	"kurgan/api"
	"kurgan/kernel"
	"kurgan/log"
	"kurgan/tree"
)

// signs that stand for a letter: the letters themselves, others like them, signs of several bytes, and bytes that are no part of one.
var signs = []string{"p", "b", "l", "P", "B", "L", "x", "q", "a", "1", "0", " ", "\n", "\x00", "\x7f", "ü", "р", "ｌ", "\U0001F40C", "\ufffd", "\xff", "\x80", "\xc3", "\xf0\x9f"}

// Words in which one letter is changed, left out or put in, or that are cut short.
func TestChangedWords(t *testing.T) {
	r := rand.New(rand.NewSource(301))
	small(r, 4, func(i api.Instance, k *kernel.Kernel) {
		for _, l := range [][]log.Record{searched(k, math.MaxInt), anySearch(r, k, nil)} {
			word, _ := plainWord(k, l)
			for at := range word {
				if _, got, e := tree.Read(k, word[:at]); got != at || e != api.ErrShort {
					t.Fatalf("Read(%q): %d, %d", word[:at], got, e)
				}
				holdRead(t, k, word[:at]+word[at+1:])
				for _, sign := range signs {
					holdRead(t, k, word[:at]+sign+word[at+1:])
					holdRead(t, k, word[:at]+sign+word[at:])
					holdRead(t, k, word[:at]+sign)
				}
			}
		}
	})
}

// Something behind the end is not looked at, whatever it is.
func TestTails(t *testing.T) {
	r := rand.New(rand.NewSource(302))
	small(r, 4, func(i api.Instance, k *kernel.Kernel) {
		word, _ := plainWord(k, anySearch(r, k, nil))
		for _, sign := range signs {
			for _, tail := range []string{sign, sign + sign, sign + "pbl" + sign, "l" + sign, word + sign, strings.Repeat(sign, 5000)} {
				if l, at, e := tree.Read(k, word+tail); len(l) != 0 || at != len(word) || e != api.ErrTail {
					t.Fatalf("Read(%q) = %v, %d, %d", word+tail, l, at, e)
				}
			}
		}
	})
}

func TestReadExamples(t *testing.T) {
	rows, _ := kernel.Of(api.Instance{Kind: 2, N: 2, Cost: [][]int{{2, 1}, {3, 9}}})
	single, _ := kernel.Of(api.Instance{Kind: 3, N: 1, Cost: [][]int{{0}}})
	for _, c := range []struct {
		k    *kernel.Kernel
		word string
		at   int
		e    api.Errno
	}{
		{oneItem(), "", 0, api.ErrShort}, {oneItem(), "b", 1, api.ErrShort}, {oneItem(), "bl", 2, api.ErrShort},
		{oneItem(), "l", 0, api.ErrForm}, {oneItem(), "bb", 1, api.ErrForm}, {oneItem(), "blb", 2, api.ErrForm},
		{oneItem(), "x", 0, api.ErrSign}, {oneItem(), "b\xff", 1, api.ErrSign}, {oneItem(), "blü", 2, api.ErrSign}, {oneItem(), "xl", 0, api.ErrSign}, {oneItem(), "lx", 0, api.ErrForm},
		{oneItem(), "px", 1, api.ErrTail}, {oneItem(), "bllb", 3, api.ErrTail}, {oneItem(), "bppü", 3, api.ErrTail},
		{rows, "b", 1, api.ErrShort}, {rows, "bl", 1, api.ErrForm}, {rows, "bbb", 2, api.ErrForm}, {rows, "bblbl", 0, api.OK}, {rows, "bblblp", 5, api.ErrTail},
		{single, "", 0, api.ErrShort}, {single, "b", 0, api.ErrForm}, {single, "l", 0, api.OK}, {single, "p", 0, api.OK}, {single, "ll", 1, api.ErrTail},
	} {
		if _, at, e := tree.Read(c.k, c.word); at != c.at || e != c.e {
			t.Errorf("Read(%q): %d, %d, not %d, %d", c.word, at, e, c.at, c.e)
		}
		holdRead(t, c.k, c.word)
	}
	l, at, e := tree.Read(rows, "bblp")
	want := []log.Record{{Kind: 2}, {Kind: 2, Path: []int{0}}, {Kind: 3, Path: []int{0, 1}}, {Kind: 1, Path: []int{1}}}
	if !sameAll(l, want) || at != 0 || e != api.OK {
		t.Error(l, at, e)
	}
}

// wordsOf: the words of all complete searches of a prefix and what is below it.
func wordsOf(k *kernel.Kernel, p []int) []string {
	if len(p) == k.Depth() {
		return []string{"p", "l"}
	}
	words := []string{"b"}
	for _, q := range followers(k, p) {
		var longer []string
		for _, word := range words {
			for _, more := range wordsOf(k, q) {
				longer = append(longer, word+more)
			}
		}
		words = longer
	}
	return append(words, "p")
}

// All texts of few letters: those that are words of a search are read, and written again; no two searches have one word.
func TestAllShortWords(t *testing.T) {
	r := rand.New(rand.NewSource(303))
	small(r, 3, func(i api.Instance, k *kernel.Kernel) {
		searches := map[string]int{}
		for _, word := range wordsOf(k, nil) {
			searches[word]++
		}
		read := 0
		texts := []string{""}
		for length := 0; length <= 6; length++ {
			var longer []string
			for _, text := range texts {
				holdRead(t, k, text)
				l, _, e := tree.Read(k, text)
				if searches[text] != 1 == (e == api.OK) || searches[text] > 1 {
					t.Fatal(i, text, e, searches[text])
				}
				if e == api.OK {
					read++
					if word, e := tree.Word(k, l); word != text || e != api.OK {
						t.Fatal(text, word, e)
					}
				}
				for _, letter := range []string{"p", "b", "l", "ü"} {
					longer = append(longer, text+letter)
				}
			}
			texts = longer
		}
		if read < 2 {
			t.Fatal("so few are read:", read)
		}
	})
}

// What one Read returns is the caller's: nothing else hangs on it.
func TestPathsAreNew(t *testing.T) {
	r := rand.New(rand.NewSource(304))
	small(r, 4, func(i api.Instance, k *kernel.Kernel) {
		word, _ := plainWord(k, searched(k, math.MaxInt))
		first, _, _ := tree.Read(k, word)
		second, _, _ := tree.Read(k, word)
		want := copied(second)
		for at := range first {
			path := first[at].Path
			for n := range path[:cap(path)] {
				path[:cap(path)][n] = 100 + at
			}
		}
		for at := range first {
			if slices.ContainsFunc(first[at].Path, func(n int) bool { return n != 100+at }) {
				t.Fatal("two Paths share memory", first[at])
			}
			first[at] = log.Record{}
		}
		_ = append(first, log.Record{Kind: 9})
		if third, _, _ := tree.Read(k, word); !sameAll(second, want) || !sameAll(third, want) {
			t.Fatal("two results share memory")
		}
	})
}

// wide has 19 items without weight, and one that never fits: its prefixes of up to 19 numbers are all lists of 0 and 1, each complete one ends with 0.
func wide() *kernel.Kernel {
	i := api.Instance{Kind: 1, N: 20, Weight: make([]int, 20), Value: slices.Repeat([]int{3}, 20)}
	i.Weight[4] = 1
	k, _ := kernel.Of(i)
	return k
}

// wideWord is a word of wide with 2^20 - 1 letters, and one more for each of the last Branches that are not pruned.
func wideWord(more int) string {
	word := "p"
	for range 19 {
		word = "b" + word + word
	}
	return strings.Replace(word, "p", "bl", more)
}

func TestLongestWord(t *testing.T) {
	k, word := wide(), wideWord(1)
	if len(word) != 1048576 {
		t.Fatal(len(word))
	}
	l, at, e := tree.Read(k, word)
	if len(l) != len(word) || at != 0 || e != api.OK {
		t.Fatal(len(l), at, e)
	}
	for n, record := range l {
		if "-pbl"[record.Kind] != word[n] || n > 0 && !log.Ahead(l[n-1].Path, record.Path) {
			t.Fatal(n, record)
		}
	}
	if sums := tree.Count(l); sums != (tree.Sums{Pruned: 1<<19 - 1, Branch: 1 << 19, Leaf: 1, Depth: 20}) {
		t.Error(sums)
	}
	slices.Reverse(l)
	if again, e := tree.Word(k, l); again != word || e != api.OK {
		t.Error("another word", e)
	}
	for _, c := range []struct {
		word string
		at   int
		e    api.Errno
	}{
		{wideWord(0) + "x", len(word) - 1, api.ErrTail}, {word[:len(word)-1], len(word) - 1, api.ErrShort}, {word[:len(word)-1] + "x", len(word) - 1, api.ErrSign},
		{word[:500000] + "x" + word[500001:], 500000, api.ErrSign}, {word[:len(word)-1] + "l", len(word) - 1, api.ErrForm},
		{word + "p", 0, api.ErrBig}, {wideWord(2), 0, api.ErrBig}, {wideWord(7), 0, api.ErrBig},
	} {
		if l, at, e := tree.Read(k, c.word); len(l) != 0 || at != c.at || e != c.e {
			t.Error(len(c.word), len(l), at, e, "not", c.at, c.e)
		}
	}
}

// Word has no limit.
func TestWordOfMoreRecords(t *testing.T) {
	k := wide()
	l, _, e := tree.Read(k, wideWord(1))
	if e != api.OK {
		t.Fatal(e)
	}
	// The last Pruned becomes a Branch, whose only Kid is a Leaf.
	last := len(l) - 1
	l[last].Kind = 2
	l = append(l, log.Record{Kind: 3, Path: append(slices.Clone(l[last].Path), 0)})
	word := wideWord(1)
	if got, e := tree.Word(k, l); got != word[:last]+"bl" || e != api.OK {
		t.Error(len(got), e)
	}
}

// One letter more than there may be is too much ahead of all else, whatever the letters are.
func TestTooManyLetters(t *testing.T) {
	const most = 1048576
	for _, sign := range append(signs, "pü", "b\xff") {
		word := strings.Repeat(sign, most+1)
		if l, at, e := tree.Read(oneItem(), word); len(l) != 0 || at != 0 || e != api.ErrBig {
			t.Errorf("%q: %d, %d, %d", sign, len(l), at, e)
		}
		if l, at, e := tree.Read(nil, word); len(l) != 0 || at != 0 || e != api.ErrArg {
			t.Errorf("%q without a kernel: %d, %d, %d", sign, len(l), at, e)
		}
	}
	for _, c := range []struct {
		word string
		at   int
		e    api.Errno
	}{
		{strings.Repeat("p", most), 1, api.ErrTail}, {strings.Repeat("b", most), 1, api.ErrForm}, {strings.Repeat("l", most), 0, api.ErrForm},
		{strings.Repeat("x", most), 0, api.ErrSign}, {strings.Repeat("\xff", most), 0, api.ErrSign}, {"b" + strings.Repeat("x", most-1), 1, api.ErrSign},
		{strings.Repeat("ü", most), 0, api.ErrSign}, {strings.Repeat("p", most-1) + "ü", 1, api.ErrTail}, // a sign of several bytes is one letter
		{strings.Repeat("p", most) + "ü", 0, api.ErrBig},
	} {
		if l, at, e := tree.Read(oneItem(), c.word); len(l) != 0 || at != c.at || e != c.e {
			t.Error(c.word[:3], len(c.word), len(l), at, e, "not", c.at, c.e)
		}
	}
}

func TestReadWithoutKernel(t *testing.T) {
	for _, k := range []*kernel.Kernel{nil, {}} {
		for _, word := range []string{"", "p", "l", "b", "x", "pp", "\xff", strings.Repeat("p", 1048576), strings.Repeat("p", 1048577)} {
			if l, at, e := tree.Read(k, word); len(l) != 0 || at != 0 || e != api.ErrArg {
				t.Error(len(word), l, at, e)
			}
		}
	}
}
