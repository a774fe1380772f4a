package digit_test

import (
	"math"
	"math/big"
	"strings"
	"testing"
	"unicode/utf8"

	"kurgan/api"
	"kurgan/digit"
)

func TestKind(t *testing.T) {
	if digit.Other != 0 || digit.Blank != 1 || digit.Digit != 2 || digit.Letter != 3 || digit.Remark != 4 {
		t.Error("the kinds' numbers")
	}
	kinds := map[rune]int{'\t': digit.Blank, '\n': digit.Blank, '\r': digit.Blank, ' ': digit.Blank, '#': digit.Remark}
	for _, r := range "0123456789" {
		kinds[r] = digit.Digit
	}
	for _, r := range "ABCDEFGHIJKLMNOPQRSTUVWXYZabcdefghijklmnopqrstuvwxyz" {
		kinds[r] = digit.Letter
	}
	for r := rune(-300); r <= utf8.MaxRune+300; r++ {
		if got := digit.Kind(r); got != kinds[r] {
			t.Errorf("Kind(%#x) = %d, not %d", r, got, kinds[r])
		}
	}
	for _, r := range []rune{math.MinInt32, math.MaxInt32} {
		if digit.Kind(r) != digit.Other {
			t.Error(r)
		}
	}
}

// read is what Read is to answer, by another way: it looks at bytes, and lets big numbers be big.
func read(s string, at int) (int, int, api.Errno) {
	if at < 0 || at > len(s) {
		return 0, 0, api.ErrArg
	}
	end := at
	for end < len(s) && s[end] >= '0' && s[end] <= '9' {
		end++
	}
	n, ok := new(big.Int).SetString(s[at:end], 10)
	if !ok || n.String() != s[at:end] {
		return 0, 0, api.ErrNumber
	}
	if end-at > 18 {
		return 0, 0, api.ErrBig
	}
	return int(n.Int64()), end, api.OK
}

// texts are all short strings of some pieces: digits, blanks, whole signs, and parts of signs.
func texts() []string {
	pieces := []string{"0", "1", "9", "a", " ", "\n", "\r", "\x00", "ü", "€", "😀", "\xff", "\xe2\x82", "\u2028", "\ufffd", "٣"}
	all, last := []string{""}, []string{""}
	for range 3 {
		var next []string
		for _, s := range last {
			for _, p := range pieces {
				next = append(next, s+p)
			}
		}
		all, last = append(all, next...), next
	}
	return all
}

func TestRead(t *testing.T) {
	l := texts()
	for _, n := range []int{17, 18, 19, 20, 100, 70000} {
		nines, noughts := strings.Repeat("9", n), strings.Repeat("0", n)
		l = append(l, nines, noughts, "1"+noughts, "0"+nines, nines+"x", nines+"é1", nines+"\xff", "-"+nines)
	}
	for _, s := range l {
		for _, at := range []int{math.MinInt, -1, 0, 1, 2, 3, 4, 5, len(s) - 1, len(s), len(s) + 1, math.MaxInt} {
			n, next, e := digit.Read(s, at)
			if wantN, wantNext, wantE := read(s, at); n != wantN || next != wantNext || e != wantE {
				t.Errorf("Read(%.40q, %d) = %d, %d, %d; not %d, %d, %d", s, at, n, next, e, wantN, wantNext, wantE)
			}
		}
	}
}

func TestReadEdges(t *testing.T) {
	for _, c := range []struct {
		s       string
		at      int
		n, next int
		e       api.Errno
	}{
		{"a12 ", 1, 12, 3, api.OK},
		{"a12 ", 2, 2, 3, api.OK},
		{"0", 0, 0, 1, api.OK},
		{"0x", 0, 0, 1, api.OK},
		{"10", 1, 0, 2, api.OK},
		{"007", 0, 0, 0, api.ErrNumber},
		{"00", 0, 0, 0, api.ErrNumber},
		{"0000000000000000000000", 0, 0, 0, api.ErrNumber}, // it begins with 0, and has too many digits
		{"", 0, 0, 0, api.ErrNumber},
		{"5", 1, 0, 0, api.ErrNumber},
		{"5", 2, 0, 0, api.ErrArg},
		{"", -1, 0, 0, api.ErrArg},
		{"+5", 0, 0, 0, api.ErrNumber},
		{"-5", 0, 0, 0, api.ErrNumber},
		{"٣", 0, 0, 0, api.ErrNumber}, // a digit of another script
		{"ü5", 1, 0, 0, api.ErrNumber},
		{"\xc3" + "5", 1, 5, 2, api.OK},
		{"999999999999999999", 0, 999999999999999999, 18, api.OK},
		{"1000000000000000000", 0, 0, 0, api.ErrBig},
		{"1000000000000000000", 1, 0, 0, api.ErrNumber},
	} {
		if n, next, e := digit.Read(c.s, c.at); n != c.n || next != c.next || e != c.e {
			t.Errorf("Read(%q, %d) = %d, %d, %d", c.s, c.at, n, next, e)
		}
	}
}

func TestWrite(t *testing.T) {
	for _, n := range []int{0, 1, -1, 9, 10, -10, 100, 1e9, -1e9, 1e18, math.MaxInt, math.MinInt, math.MinInt + 1} {
		if got, want := digit.Write(n), big.NewInt(int64(n)).String(); got != want {
			t.Errorf("Write(%d) = %q", n, got)
		}
	}
	if digit.Write(-1<<63) != "-9223372036854775808" || digit.Write(-7) != "-7" || digit.Write(0) != "0" {
		t.Error("the document's example")
	}
	for n := 1; n < 1e18; n = 7*n + 3 {
		s := digit.Write(n)
		if got, next, e := digit.Read(s, 0); got != n || next != len(s) || e != api.OK {
			t.Error(n, s, got, next, e)
		}
	}
}

// begins tells where the signs of a string begin, one decoded behind the other.
func begins(s string) []int {
	var l []int
	for i := 0; i < len(s); {
		l = append(l, i)
		_, n := utf8.DecodeRuneInString(s[i:])
		i += n
	}
	return l
}

func TestPlaceAndSigns(t *testing.T) {
	for _, s := range texts() {
		signs := begins(s)
		if got := digit.Signs(s); got != len(signs) {
			t.Errorf("Signs(%q) = %d, not %d", s, got, len(signs))
		}
		for at := -2; at <= len(s)+2; at++ {
			before := s[:min(max(at, 0), len(s))]
			column := 1
			for _, i := range signs {
				if i > strings.LastIndex(before, "\n") && i < len(before) {
					column++
				}
			}
			line := 1 + strings.Count(before, "\n")
			if l, c := digit.Place(s, at); l != line || c != column {
				t.Errorf("Place(%q, %d) = %d, %d; not %d, %d", s, at, l, c, line, column)
			}
		}
	}
}

func TestPlaceEdges(t *testing.T) {
	for _, c := range []struct {
		s            string
		at           int
		line, column int
	}{
		{"a\nüb", 4, 2, 2},
		{"a\nüb", 3, 2, 2}, // within the ü, which begins before
		{"a\nüb", 2, 2, 1},
		{"a\nüb", 1, 1, 2}, // the line feed itself
		{"a\nüb", math.MaxInt, 2, 3},
		{"a\nüb", math.MinInt, 1, 1},
		{"", 0, 1, 1},
		{"", 7, 1, 1},
		{"\n\n", 1, 2, 1},
		{"\n\n", 2, 3, 1},
		{"a\r\nb", 2, 1, 3},
		{"a\rb", 2, 1, 3},
		{"a\u2028b", 4, 1, 3},
		{"€", 2, 1, 2},        // two bytes of one sign
		{"\xe2\x82", 2, 1, 3}, // the same two bytes, with nothing behind them
		{"\xff\xfe\n\xff", 4, 2, 2},
	} {
		if l, col := digit.Place(c.s, c.at); l != c.line || col != c.column {
			t.Errorf("Place(%q, %d) = %d, %d", c.s, c.at, l, col)
		}
	}
}

func TestSignsEdges(t *testing.T) {
	for s, want := range map[string]int{"": 0, "a": 1, "ü": 1, "a\xffü": 3, "\xe2\x82": 2, "€": 1, "\x00\n": 2, "u\u0308": 2, "\xed\xa0\x80": 3, "\ufffd": 1} {
		if got := digit.Signs(s); got != want {
			t.Errorf("Signs(%q) = %d, not %d", s, got, want)
		}
	}
}
