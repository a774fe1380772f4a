package cert_test

import (
	"math/big"
	"math/rand"
	"slices"
	"strings"
	"testing"

	"kurgan/api"
	"kurgan/cert"
)

const (
	mostValue   = 1125899906842624 // 2^50
	mostLetters = 1048576          // 2^20
)

func same(a, b cert.Cert) bool {
	return a.Value == b.Value && slices.Equal(a.X, b.X) && a.Tree == b.Tree
}

// drawn is a valid Cert: often with the least and the greatest numbers there may be.
func drawn(r *rand.Rand) cert.Cert {
	c := cert.Cert{Value: []int{0, 1, mostValue, mostValue - 1, r.Intn(10), r.Intn(mostValue + 1)}[r.Intn(6)]}
	for range []int{1, 2, 64, 1 + r.Intn(9), 1 + r.Intn(64)}[r.Intn(5)] {
		c.X = append(c.X, []int{0, 999, r.Intn(3), r.Intn(1000)}[r.Intn(4)])
	}
	for range []int{1, 2, 1 + r.Intn(9), 1 + r.Intn(50)}[r.Intn(4)] {
		c.Tree += string("pbl"[r.Intn(3)])
	}
	return c
}

// short is a valid Cert with a short text.
func short(r *rand.Rand) cert.Cert {
	c := drawn(r)
	c.X, c.Tree = c.X[:min(len(c.X), 3)], c.Tree[:min(len(c.Tree), 4)]
	return c
}

// spelled is the chapter's text.
func spelled(c cert.Cert) string {
	text := "CERT " + big.NewInt(int64(c.Value)).String() + " " + big.NewInt(int64(len(c.X))).String()
	for at, n := range c.X {
		text += map[bool]string{true: "\n", false: " "}[at == 0] + big.NewInt(int64(n)).String()
	}
	return text + "\n" + c.Tree + "\n"
}

// plain is a text that is read byte by byte, by the chapter's words: what is required next decides.
type plain struct {
	text string
	at   int
}

// wrong ends a reading.
type wrong struct {
	at int
	e  api.Errno
}

func (p *plain) required() byte {
	if p.at == len(p.text) {
		panic(wrong{p.at, api.ErrShort})
	}
	return p.text[p.at]
}

func (p *plain) sign(b byte) {
	if p.required() != b {
		panic(wrong{p.at, api.ErrSign})
	}
	p.at++
}

func (p *plain) number(most int64) int {
	p.required()
	begin := p.at
	for p.at < len(p.text) && p.text[p.at] >= '0' && p.text[p.at] <= '9' {
		p.at++
	}
	digits := p.text[begin:p.at]
	if digits == "" || len(digits) > 1 && digits[0] == '0' {
		panic(wrong{begin, api.ErrNumber})
	}
	n, _ := new(big.Int).SetString(digits, 10)
	if n.Cmp(big.NewInt(most)) > 0 {
		panic(wrong{begin, api.ErrBig})
	}
	return int(n.Int64())
}

// plainRead is the chapter's Read.
func plainRead(s string) (c cert.Cert, at int, e api.Errno) {
	defer func() {
		if w, ok := recover().(wrong); ok {
			c, at, e = cert.Cert{}, w.at, w.e
		}
	}()
	p := &plain{text: s}
	for _, b := range []byte("CERT ") {
		p.sign(b)
	}
	c.Value = p.number(mostValue)
	p.sign(' ')
	begin := p.at
	elements := p.number(64)
	if elements == 0 {
		panic(wrong{begin, api.ErrArg})
	}
	p.sign('\n')
	for n := 0; n < elements; n++ {
		if n > 0 {
			p.sign(' ')
		}
		c.X = append(c.X, p.number(999))
	}
	p.sign('\n')
	for begin = p.at; p.at == begin || p.required() != '\n'; p.at++ {
		if !strings.Contains("pbl", string(rune(p.required()))) {
			panic(wrong{p.at, api.ErrSign})
		}
		if p.at == begin+mostLetters {
			panic(wrong{p.at, api.ErrBig})
		}
	}
	c.Tree = s[begin:p.at]
	if p.at++; p.at < len(s) {
		panic(wrong{p.at, api.ErrTail})
	}
	return c, 0, api.OK
}

// hold holds Read against the plain one; and whatever is read has just that text.
func hold(t *testing.T, s string) {
	t.Helper()
	want, wantAt, wanted := plainRead(s)
	got, at, e := cert.Read(s)
	if !same(got, want) || at != wantAt || e != wanted {
		t.Fatalf("Read(%.200q) = %v, %d, %d, not %v, %d, %d", s, got, at, e, want, wantAt, wanted)
	}
	if e != api.OK {
		return
	}
	if text, e := cert.Write(got); text != s || e != api.OK {
		t.Fatalf("Read(%.200q) = %v, whose text is %q, %d", s, got, text, e)
	}
}
