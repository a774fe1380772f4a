package lex_test

import (
	"bytes"
	"math/big"
	"math/rand"
	"slices"
	"strings"
	"testing"
	"unsafe"

	"kurgan/api"
	"kurgan/lex"
)

func isLetter(c byte) bool { return c >= 'A' && c <= 'Z' || c >= 'a' && c <= 'z' }
func isDigit(c byte) bool  { return c >= '0' && c <= '9' }

// run: where the bytes end that are all of one class, from a place on.
func run(s string, at int, class func(byte) bool) int {
	for at < len(s) && class(s[at]) {
		at++
	}
	return at
}

// scan is what Scan is to answer, by another way: it looks at bytes, token by token.
func scan(s string) ([]lex.Token, int, api.Errno) {
	if len(s) > 65536 {
		return nil, 0, api.ErrBig
	}
	var l []lex.Token
	for at := 0; at < len(s); {
		switch c := s[at]; {
		case c == ' ', c == '\t', c == '\n', c == '\r':
			at++
		case c == '#':
			at = run(s, at, func(c byte) bool { return c != '\n' })
		case isLetter(c):
			end := run(s, at, isLetter)
			if end-at > 16 {
				return nil, at, api.ErrBig
			}
			if end < len(s) && isDigit(s[end]) {
				return nil, end, api.ErrSign
			}
			l = append(l, lex.Token{Kind: lex.Word, Text: s[at:end], At: at})
			at = end
		case isDigit(c):
			end := run(s, at, isDigit)
			n, _ := new(big.Int).SetString(s[at:end], 10)
			if n.String() != s[at:end] {
				return nil, at, api.ErrNumber
			}
			if end-at > 18 {
				return nil, at, api.ErrBig
			}
			if end < len(s) && isLetter(s[end]) {
				return nil, end, api.ErrSign
			}
			l = append(l, lex.Token{Kind: lex.Number, Num: int(n.Int64()), At: at})
			at = end
		default:
			return nil, at, api.ErrSign
		}
	}
	return append(l, lex.Token{Kind: lex.End, At: len(s)}), 0, api.OK
}

func compare(t *testing.T, s string) {
	t.Helper()
	l, at, e := lex.Scan(s)
	wantL, wantAt, wantE := scan(s)
	if !slices.Equal(l, wantL) || at != wantAt || e != wantE {
		if len(s) > 60 {
			s = s[:60] + "..."
		}
		t.Errorf("Scan(%q) = %v, %d, %d, not %v, %d, %d", s, l, at, e, wantL, wantAt, wantE)
	}
}

var pieces = []string{"0", "1", "90", "a", "Z", "bC", " ", "\t", "\n", "\r", "#", "\x00", "\v", "-", "_", "ü", "€", "😀", "\xff", "\xe2\x82", "\u00a0", "\u2028", "\ufffd", "\ufeff", "٣", "{", "@", "[", "`", "/", ":"}

func TestShortTexts(t *testing.T) {
	last := []string{""}
	for range 4 {
		var next []string
		for _, s := range last {
			for _, p := range pieces {
				next = append(next, s+p)
			}
		}
		for _, s := range next {
			compare(t, s)
		}
		last = next
	}
	compare(t, "")
	for c := range 256 {
		for _, s := range []string{"", "a", "1", " ", "#"} {
			compare(t, s+string([]byte{byte(c)}))
			compare(t, s+string([]byte{byte(c)})+"1")
			compare(t, s+string([]byte{byte(c)})+"a")
		}
	}
}

func TestDrawnTexts(t *testing.T) {
	r := rand.New(rand.NewSource(4))
	good := []string{"a", "Word", "ABCDEFGHIJKLMNOP", "0", "7", "123456789012345678", " ", "\n", "\t\r", "# ü\xff 007 a1\n", "#\n", "##x\r\n"}
	for range 20000 {
		var s strings.Builder
		for range r.Intn(30) {
			s.WriteString(good[r.Intn(len(good))])
			if r.Intn(8) > 0 {
				s.WriteString(" ")
			}
		}
		if r.Intn(4) == 0 {
			s.WriteString(pieces[r.Intn(len(pieces))])
		}
		compare(t, s.String())
	}
	for range 20000 {
		b := make([]byte, r.Intn(12))
		r.Read(b)
		compare(t, string(b))
	}
}

func TestTokens(t *testing.T) {
	if lex.Word != 1 || lex.Number != 2 || lex.End != 3 {
		t.Error("the kinds' numbers")
	}
	for s, want := range map[string][]lex.Token{
		"":                                    {{Kind: lex.End}},
		" \t\r\n":                             {{Kind: lex.End, At: 4}},
		"#":                                   {{Kind: lex.End, At: 1}},
		"# \xffü 007":                         {{Kind: lex.End, At: 9}},
		"TSP 3 # x":                           {{Kind: lex.Word, Text: "TSP", At: 0}, {Kind: lex.Number, Num: 3, At: 4}, {Kind: lex.End, At: 9}},
		"a#1\n1#a":                            {{Kind: lex.Word, Text: "a", At: 0}, {Kind: lex.Number, Num: 1, At: 4}, {Kind: lex.End, At: 7}},
		"#a\r1\n\nB":                          {{Kind: lex.Word, Text: "B", At: 6}, {Kind: lex.End, At: 7}},
		"#ü\na b":                             {{Kind: lex.Word, Text: "a", At: 4}, {Kind: lex.Word, Text: "b", At: 6}, {Kind: lex.End, At: 7}},
		"0 0":                                 {{Kind: lex.Number, At: 0}, {Kind: lex.Number, At: 2}, {Kind: lex.End, At: 3}},
		"abcdefghijklmnop 999999999999999999": {{Kind: lex.Word, Text: "abcdefghijklmnop"}, {Kind: lex.Number, Num: 999999999999999999, At: 17}, {Kind: lex.End, At: 35}},
	} {
		l, at, e := lex.Scan(s)
		if !slices.Equal(l, want) || at != 0 || e != api.OK {
			t.Errorf("Scan(%q) = %v, %d, %d", s, l, at, e)
		}
	}
}

func TestFaults(t *testing.T) {
	for _, c := range []struct {
		s  string
		at int
		e  api.Errno
	}{
		{"a1", 1, api.ErrSign},
		{"1a", 1, api.ErrSign},
		{"x ü", 2, api.ErrSign},
		{"x \xff", 2, api.ErrSign},
		{"#ü\n\xff", 4, api.ErrSign},
		{"-1", 0, api.ErrSign},
		{"a\x00", 1, api.ErrSign},
		{"a\v", 1, api.ErrSign},
		{"007", 0, api.ErrNumber},
		{"a 00", 2, api.ErrNumber},
		{"007a", 0, api.ErrNumber},
		{"1 1234567890123456789", 2, api.ErrBig},
		{"1234567890123456789a", 0, api.ErrBig},
		{"0234567890123456789", 0, api.ErrNumber},
		{"1 abcdefghijklmnopq", 2, api.ErrBig},
		{"abcdefghijklmnopq1", 0, api.ErrBig},
		{"abcdefghijklmnopqü", 0, api.ErrBig},
		// The sign is found before the rest of the word or the number is read.
		{"a007", 1, api.ErrSign},
		{"a1234567890123456789", 1, api.ErrSign},
		{"1abcdefghijklmnopq", 1, api.ErrSign},
		// What comes first counts.
		{"ü 007", 0, api.ErrSign},
		{"007 ü", 0, api.ErrNumber},
		{"abcdefghijklmnopq 00", 0, api.ErrBig},
		{"00 abcdefghijklmnopq", 0, api.ErrNumber},
	} {
		l, at, e := lex.Scan(c.s)
		if len(l) != 0 || at != c.at || e != c.e {
			t.Errorf("Scan(%q) = %v, %d, %d, not %d, %d", c.s, l, at, e, c.at, c.e)
		}
	}
}

func TestLongTexts(t *testing.T) {
	for _, piece := range []string{" ", "a ", "1 ", "a", "1", "#", "ü", "# ü\n", "\xff", "\n#\xff"} {
		s := strings.Repeat(piece, 65537/len(piece)+1)
		for _, n := range []int{65535, 65536, 65537} {
			compare(t, s[:n])
		}
	}
	if _, at, e := lex.Scan("ü" + strings.Repeat(" ", 65536)); at != 0 || e != api.ErrBig {
		t.Error("a long text that begins with a wrong sign:", at, e)
	}
}

// What Scan answers is to hold no piece of the text.
func TestKeepsNoText(t *testing.T) {
	s := string(bytes.Repeat([]byte("abc d "), 20))
	begin := uintptr(unsafe.Pointer(unsafe.StringData(s)))
	l, _, _ := lex.Scan(s)
	for _, token := range l {
		at := uintptr(unsafe.Pointer(unsafe.StringData(token.Text)))
		if token.Text != "" && at >= begin && at < begin+uintptr(len(s)) {
			t.Fatal("a word is a piece of the text")
		}
	}
	again, _, _ := lex.Scan(s)
	again[0] = lex.Token{}
	if l[0].Text != "abc" {
		t.Error("two answers share their tokens")
	}
}
