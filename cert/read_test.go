package cert_test

import (
	"math/rand"
	"slices"
	"strings"
	"testing"
	"unsafe"

	"kurgan/api"
	"kurgan/cert"
)

// pieces are put in, or stand for a byte.
var pieces = []string{"0", "1", "9", " ", "  ", "\n", "\n\n", "\t", "\r", "\r\n", "-", "+", ".", "p", "b", "l", "P", "C", "cert", "x", "ü", "é\x80", "٣", "\x00", "\xff", "\xc3", "\x80", "\ufffd", "\u00a0"}

// Texts that are cut short, or in which one byte is another one, is left out, or has something ahead of it.
func TestChangedTexts(t *testing.T) {
	r := rand.New(rand.NewSource(321))
	certs := []cert.Cert{{Value: 5, X: []int{1, 0}, Tree: "bpl"}, {Value: 0, X: []int{0}, Tree: "p"}, {Value: mostValue, X: []int{999, 10, 7}, Tree: "ll"}}
	for range 60 {
		certs = append(certs, short(r))
	}
	for _, c := range certs {
		text := spelled(c)
		for at := range len(text) {
			if got, where, e := cert.Read(text[:at]); !same(got, cert.Cert{}) || where != at || e != api.ErrShort {
				t.Fatalf("Read(%q) = %v, %d, %d", text[:at], got, where, e)
			}
			hold(t, text[:at]+text[at+1:])
			for b := range 256 {
				hold(t, text[:at]+string([]byte{byte(b)})+text[at+1:])
			}
		}
		for at := range len(text) + 1 {
			for _, piece := range pieces {
				hold(t, text[:at]+piece+text[at:])
				hold(t, text[:at]+piece)
				hold(t, text[at:]+piece)
			}
		}
	}
}

// Texts of drawn pieces, so that there are several errors.
func TestDrawnTexts(t *testing.T) {
	r := rand.New(rand.NewSource(322))
	met := map[api.Errno]int{}
	for range 200000 {
		text := spelled(short(r))
		for range r.Intn(4) {
			at := r.Intn(len(text) + 1)
			text = text[:at] + pieces[r.Intn(len(pieces))] + text[min(len(text), at+r.Intn(3)):]
		}
		hold(t, text)
		_, _, e := cert.Read(text)
		met[e]++
	}
	for _, e := range []api.Errno{api.OK, api.ErrArg, api.ErrSign, api.ErrNumber, api.ErrBig, api.ErrShort, api.ErrTail} {
		if met[e] < 50 {
			t.Error("so seldom:", e, met[e])
		}
	}
}

func TestErrors(t *testing.T) {
	const few = "CERT 5 2\n1 0\nbpl\n"
	for _, c := range []struct {
		text string
		at   int
		e    api.Errno
	}{
		{"", 0, api.ErrShort}, {"C", 1, api.ErrShort}, {"CERT", 4, api.ErrShort}, {"CERT ", 5, api.ErrShort}, {"CERT 5", 6, api.ErrShort}, {"CERT 5 ", 7, api.ErrShort}, {"CERT 5 2", 8, api.ErrShort}, {"CERT 5 2\n", 9, api.ErrShort}, {"CERT 5 2\n1", 10, api.ErrShort}, {"CERT 5 2\n1 ", 11, api.ErrShort}, {"CERT 5 2\n1 0", 12, api.ErrShort}, {"CERT 5 2\n1 0\n", 13, api.ErrShort}, {"CERT 5 2\n1 0\nb", 14, api.ErrShort}, {few[:16], 16, api.ErrShort},
		{"x", 0, api.ErrSign}, {"cert 5", 0, api.ErrSign}, {"CERt 5", 3, api.ErrSign}, {"CERT5", 4, api.ErrSign}, {"CERT\t5", 4, api.ErrSign}, {"CERT\n5", 4, api.ErrSign}, {"ÇERT 5", 0, api.ErrSign}, {"CEü", 2, api.ErrSign}, {"CE\xff", 2, api.ErrSign}, {" CERT 5", 0, api.ErrSign}, {"\nCERT 5", 0, api.ErrSign},
		{"CERT  5", 5, api.ErrNumber}, {"CERT \n5", 5, api.ErrNumber}, {"CERT -5", 5, api.ErrNumber}, {"CERT +5", 5, api.ErrNumber}, {"CERT 05 2", 5, api.ErrNumber}, {"CERT 00", 5, api.ErrNumber}, {"CERT 007 x", 5, api.ErrNumber}, {"CERT ٣ 1", 5, api.ErrNumber}, {"CERT \xff", 5, api.ErrNumber},
		{"CERT 1125899906842625 2", 5, api.ErrBig}, {"CERT 1125899906842625", 5, api.ErrBig}, {"CERT 999999999999999999 0", 5, api.ErrBig}, {"CERT 1000000000000000000 0", 5, api.ErrBig}, {"CERT 9223372036854775808", 5, api.ErrBig}, {"CERT 18446744073709551621 2\n1 0\nbpl\n", 5, api.ErrBig}, {"CERT " + strings.Repeat("9", 100000), 5, api.ErrBig}, {"CERT 0" + strings.Repeat("9", 100000), 5, api.ErrNumber},
		{"CERT 5x", 6, api.ErrSign}, {"CERT 5\n2", 6, api.ErrSign}, {"CERT 5\t2", 6, api.ErrSign}, {"CERT 5.0 2", 6, api.ErrSign}, {"CERT 1125899906842624\n", 21, api.ErrSign},
		{"CERT 5  2", 7, api.ErrNumber}, {"CERT 5 \n", 7, api.ErrNumber}, {"CERT 5 x", 7, api.ErrNumber}, {"CERT 5 -2", 7, api.ErrNumber}, {"CERT 5 02", 7, api.ErrNumber}, {"CERT 5 00", 7, api.ErrNumber},
		{"CERT 5 0", 7, api.ErrArg}, {"CERT 5 0\n\np\n", 7, api.ErrArg}, {"CERT 5 0x", 7, api.ErrArg}, {"CERT 5 65", 7, api.ErrBig}, {"CERT 5 65x", 7, api.ErrBig}, {"CERT 5 1000000000000000000000", 7, api.ErrBig}, {"CERT 5 18446744073709551617\n1\np\n", 7, api.ErrBig},
		{"CERT 5 2 1 0", 8, api.ErrSign}, {"CERT 5 2 \n", 8, api.ErrSign}, {"CERT 5 2\r\n1 0", 8, api.ErrSign}, {"CERT 5 2ü", 8, api.ErrSign},
		{"CERT 5 2\n 1 0", 9, api.ErrNumber}, {"CERT 5 2\n\n", 9, api.ErrNumber}, {"CERT 5 2\n01 0", 9, api.ErrNumber}, {"CERT 5 2\n-1 0", 9, api.ErrNumber}, {"CERT 5 2\n1000 0", 9, api.ErrBig}, {"CERT 5 2\n1 1000", 11, api.ErrBig}, {"CERT 5 2\n1 1000000000000000000000", 11, api.ErrBig},
		{"CERT 5 2\n1\n", 10, api.ErrSign}, {"CERT 5 2\n1\nbpl\n", 10, api.ErrSign}, {"CERT 5 2\n1  0", 11, api.ErrNumber}, {"CERT 5 2\n1\t0", 10, api.ErrSign}, {"CERT 5 2\n1 \n", 11, api.ErrNumber},
		{"CERT 5 2\n1 0 1\n", 12, api.ErrSign}, {"CERT 5 2\n1 0 \nbpl\n", 12, api.ErrSign}, {"CERT 5 2\n1 0bpl\n", 12, api.ErrSign}, {"CERT 5 2\n1 0\r\nbpl\n", 12, api.ErrSign}, {"CERT 5 1\n1 0\nbpl\n", 10, api.ErrSign}, {"CERT 5 3\n1 0\nbpl\n", 12, api.ErrSign},
		{"CERT 5 2\n1 0\n\n", 13, api.ErrSign}, {"CERT 5 2\n1 0\n\nbpl\n", 13, api.ErrSign}, {"CERT 5 2\n1 0\n bpl\n", 13, api.ErrSign}, {"CERT 5 2\n1 0\nxpl\n", 13, api.ErrSign}, {"CERT 5 2\n1 0\nüpl\n", 13, api.ErrSign}, {"CERT 5 2\n1 0\n\xffpl\n", 13, api.ErrSign}, {"CERT 5 2\n1 0\n1\n", 13, api.ErrSign},
		{"CERT 5 2\n1 0\nbPl\n", 14, api.ErrSign}, {"CERT 5 2\n1 0\nb pl\n", 14, api.ErrSign}, {"CERT 5 2\n1 0\nbpü\n", 15, api.ErrSign}, {"CERT 5 2\n1 0\nbpl \n", 16, api.ErrSign}, {"CERT 5 2\n1 0\nbpl\r\n", 16, api.ErrSign}, {"CERT 5 2\n1 0\nbpl\x00", 16, api.ErrSign},
		{few + "\n", 17, api.ErrTail}, {few + "p", 17, api.ErrTail}, {few + " ", 17, api.ErrTail}, {few + "\xff", 17, api.ErrTail}, {few + "üü", 17, api.ErrTail}, {few + few, 17, api.ErrTail}, {few + "\x00", 17, api.ErrTail},
	} {
		got, at, e := cert.Read(c.text)
		if !same(got, cert.Cert{}) || at != c.at || e != c.e {
			t.Errorf("Read(%.60q) = %v, %d, %d, not %d, %d", c.text, got, at, e, c.at, c.e)
		}
		hold(t, c.text)
	}
	hold(t, few)
}

// Each number just at its maximum and just above, with as many elements as are told, one too few, and one too many.
func TestMaxima(t *testing.T) {
	for _, n := range []int{1, 2, 9, 10, 63, 64, 65, 66, 100} {
		for _, told := range []string{"1", "2", "9", "10", "63", "64", "65", "66", "100", "064"} {
			for _, element := range []string{"0", "999", "1000", "0999"} {
				elements := strings.Repeat(" "+element, n)[1:]
				for _, value := range []string{"0", "1125899906842623", "1125899906842624", "1125899906842625", "01"} {
					hold(t, "CERT "+value+" "+told+"\n"+elements+"\nbpl\n")
				}
				// the last element alone
				if at := strings.LastIndex(elements, " "); at >= 0 {
					hold(t, "CERT 5 "+told+"\n"+strings.Repeat("7 ", n-1)+elements[at+1:]+"\nbpl\n")
				}
			}
		}
	}
}

func TestLongTrees(t *testing.T) {
	const ahead = "CERT 5 2\n1 0\n"
	word := strings.Repeat("pblb", mostLetters/4)
	first := len(ahead) + mostLetters // the first byte behind the longest Tree
	for _, c := range []struct {
		behind string
		at     int
		e      api.Errno
	}{
		{word + "\n", 0, api.OK}, {word[1:] + "\n", 0, api.OK},
		{word, first, api.ErrShort}, {word[1:], first - 1, api.ErrShort},
		{word + "p\n", first, api.ErrBig}, {word + "b", first, api.ErrBig}, {word + "lx", first, api.ErrBig}, {word + word + "\n", first, api.ErrBig}, {word + "p\nx", first, api.ErrBig},
		{word + "x\n", first, api.ErrSign}, {word + "ü\n", first, api.ErrSign}, {word + "\r\n", first, api.ErrSign}, {word[1:] + "x", first - 1, api.ErrSign}, {"x" + word + "\n", len(ahead), api.ErrSign}, {word[:500] + "ü" + word, len(ahead) + 500, api.ErrSign},
		{word + "\n\n", first + 1, api.ErrTail}, {word + "\np", first + 1, api.ErrTail},
	} {
		got, at, e := cert.Read(ahead + c.behind)
		if at != c.at || e != c.e || e != api.OK && !same(got, cert.Cert{}) {
			t.Errorf("%d letters: %d, %d, not %d, %d", len(c.behind), at, e, c.at, c.e)
		}
		hold(t, ahead+c.behind)
	}
}

// begin tells where a text's bytes lie.
func begin(s string) *byte { return unsafe.StringData(s) }

// lies: does a text lie within another one's memory?
func lies(s, within string) bool {
	at, from := uintptr(unsafe.Pointer(begin(s))), uintptr(unsafe.Pointer(begin(within)))
	return at+uintptr(len(s)) > from && at < from+uintptr(len(within))
}

// What Read returns shares no memory with the text or with another result.
func TestCertsAreNew(t *testing.T) {
	r := rand.New(rand.NewSource(323))
	for range 300 {
		want := drawn(r)
		text := strings.Clone(spelled(want))
		first, _, _ := cert.Read(text)
		second, _, _ := cert.Read(text)
		if lies(first.Tree, text) || lies(first.Tree, second.Tree) {
			t.Fatal("a Tree is a piece of something else")
		}
		for at := range first.X[:cap(first.X)] {
			first.X[:cap(first.X)][at] = -3
		}
		if third, _, _ := cert.Read(text); !same(second, want) || !same(third, want) || text != spelled(want) {
			t.Fatal("two results share memory")
		}
		written, _ := cert.Write(want)
		if lies(written, want.Tree) || !slices.Equal(second.X, want.X) {
			t.Fatal("a text has another one's memory")
		}
	}
}
