package cert_test

import (
	"math"
	"math/rand"
	"slices"
	"strings"
	"testing"

	"kurgan/api"
	"kurgan/cert"
)

func TestExamples(t *testing.T) {
	c := cert.Cert{Value: 5, X: []int{1, 0}, Tree: "bpl"}
	const text = "CERT 5 2\n1 0\nbpl\n"
	if got, e := cert.Write(c); got != text || e != api.OK {
		t.Error(got, e)
	}
	if got, at, e := cert.Read(text); !same(got, c) || at != 0 || e != api.OK {
		t.Error(got, at, e)
	}
	if c, at, e := cert.Read("CERT x"); !same(c, cert.Cert{}) || at != 5 || e != api.ErrNumber {
		t.Error(c, at, e)
	}
}

// valids: Certs with the least and the greatest of each thing.
func valids() []cert.Cert {
	return []cert.Cert{
		{Value: 0, X: []int{0}, Tree: "p"},
		{Value: 1, X: []int{1}, Tree: "b"},
		{Value: mostValue, X: []int{999}, Tree: "l"},
		{Value: mostValue - 1, X: []int{998, 999, 0, 100, 10, 9}, Tree: "pblpbl"},
		{Value: 1000, X: slices.Repeat([]int{999}, 64), Tree: "lll"},
		{Value: 10, X: slices.Repeat([]int{0}, 63), Tree: "ppp"},
		{Value: 7, X: []int{7}, Tree: strings.Repeat("b", mostLetters)},
		{Value: mostValue, X: slices.Repeat([]int{999}, 64), Tree: strings.Repeat("pblb", mostLetters/4)},
		{Value: 7, X: []int{7}, Tree: strings.Repeat("l", mostLetters-1)},
	}
}

func TestValids(t *testing.T) {
	r := rand.New(rand.NewSource(311))
	all := valids()
	for range 2000 {
		all = append(all, drawn(r))
	}
	for _, c := range all {
		text, e := cert.Write(c)
		if text != spelled(c) || e != api.OK {
			t.Fatalf("Write(%.200v) = %.200q, %d", c, text, e)
		}
		if got, at, e := cert.Read(text); !same(got, c) || at != 0 || e != api.OK {
			t.Fatalf("Read(%.200q) = %.200v, %d, %d", text, got, at, e)
		}
		hold(t, text)
	}
}

// No two valid Certs have one text.
func TestTextsDiffer(t *testing.T) {
	texts := map[string]cert.Cert{}
	for _, value := range []int{0, 1, 10, 11} {
		for _, x := range [][]int{{0}, {1}, {10}, {1, 0}, {0, 1}, {11}, {1, 1}, {0, 0}, {1, 0, 1}} {
			for _, word := range []string{"p", "b", "l", "bl", "lb", "bb"} {
				c := cert.Cert{Value: value, X: x, Tree: word}
				text, e := cert.Write(c)
				if other, there := texts[text]; there || e != api.OK {
					t.Error(text, e, c, other)
				}
				texts[text] = c
			}
		}
	}
}

// Each thing of a Cert by itself just beside what it may be, and far from it.
func TestInvalids(t *testing.T) {
	valid := cert.Cert{Value: 5, X: []int{1, 0, 2}, Tree: "bpl"}
	var all []cert.Cert
	for _, value := range []int{-1, mostValue + 1, math.MinInt, math.MaxInt, -mostValue, 1 << 51, 1 << 62} {
		c := valid
		c.Value = value
		all = append(all, c)
	}
	for _, n := range []int{-1, 1000, math.MinInt, math.MaxInt, 1 << 32, 1<<32 + 5, -999, 1024} {
		for at := range valid.X {
			c := valid
			c.X = slices.Clone(c.X)
			c.X[at] = n
			all = append(all, c)
		}
	}
	for _, x := range [][]int{nil, {}, slices.Repeat([]int{1}, 65), slices.Repeat([]int{0}, 128), slices.Repeat([]int{0}, 1000)} {
		c := valid
		c.X = x
		all = append(all, c)
	}
	long := strings.Repeat("p", mostLetters)
	for _, word := range []string{"", long + "p", long + long, long[1:] + "x", "x" + long[1:], long[1:] + "ü"} {
		c := valid
		c.Tree = word
		all = append(all, c)
	}
	for _, sign := range []string{"x", "P", "B", "L", "a", " ", "\n", "\r", "\x00", "0", "ü", "р", "\xff", "\xc3", "\ufffd"} {
		for _, word := range []string{sign, sign + "bpl", "bp" + sign + "bl", "bpl" + sign} {
			c := valid
			c.Tree = word
			all = append(all, c)
		}
	}
	all = append(all, cert.Cert{})
	for _, c := range all {
		if text, e := cert.Write(c); text != "" || e != api.ErrForm {
			t.Errorf("Write(%.200v) = %.200q, %d", c, text, e)
		}
	}
	if _, e := cert.Write(valid); e != api.OK {
		t.Error(e)
	}
}

// What is passed to Write is neither changed nor kept, nor is what stands behind its end.
func TestElementsStay(t *testing.T) {
	r := rand.New(rand.NewSource(312))
	for range 300 {
		c := drawn(r)
		room := append(slices.Clone(c.X), 71, 72)
		c.X = room[:len(room)-2]
		before := slices.Clone(room)
		text, _ := cert.Write(c)
		if !slices.Equal(room, before) {
			t.Fatal("changed", before, room)
		}
		kept := []byte(text)
		clear(room)
		if text != string(kept) {
			t.Fatal("the text hangs on the elements")
		}
	}
}
