package cert

import (
	"strings"

	"kurgan/api"
	"kurgan/digit"
)

// reader is how far a text has been read. Once there is an error, it stays at the byte concerned and reads nothing more.
type reader struct {
	text string
	at   int
	e    api.Errno
}

// cert reads a whole text.
func (r *reader) cert() Cert {
	var c Cert
	r.pass("CERT ")
	c.Value = r.number(mostValue)
	r.pass(" ")
	ahead := "\n" // of the next element
	for range r.count() {
		r.pass(ahead)
		c.X = append(c.X, r.number(mostElement))
		ahead = " "
	}
	r.pass("\n")
	c.Tree = r.tree()
	r.pass("\n")
	if r.e == api.OK && r.at < len(r.text) {
		r.e = api.ErrTail
	}
	return c
}

// pass goes over what is required here.
func (r *reader) pass(required string) {
	if r.e != api.OK {
		return
	}
	begin := r.at
	for at, sign := range r.text[begin:] {
		if at == len(required) {
			return
		}
		if sign != rune(required[at]) {
			r.e = api.ErrSign
			return
		}
		r.at++
	}
	if r.at < begin+len(required) {
		r.e = api.ErrShort
	}
}

func (r *reader) number(most int) int {
	switch {
	case r.e != api.OK:
		return 0
	case r.at == len(r.text):
		r.e = api.ErrShort
		return 0
	}
	n, next, e := digit.Read(r.text, r.at)
	switch {
	case e != api.OK:
		r.e = e
	case n > most:
		r.e = api.ErrBig
	default:
		r.at = next
	}
	return n
}

// count reads the number of elements; 0 with an error alone.
func (r *reader) count() int {
	begin := r.at
	n := r.number(mostElements)
	switch {
	case r.e != api.OK:
		return 0
	case n == 0:
		r.at, r.e = begin, api.ErrArg
	}
	return n
}

// tree reads the letters up to a line feed.
func (r *reader) tree() string {
	if r.e != api.OK {
		return ""
	}
	begin := r.at
	for at, sign := range r.text[begin:] { // a byte for each letter, so that at of them are behind
		switch {
		case isLetter(sign) && at < mostLetters:
			r.at++
			continue
		case isLetter(sign):
			r.e = api.ErrBig
		case sign != '\n' || at == 0:
			r.e = api.ErrSign
		default:
			return strings.Clone(r.text[begin:r.at]) // a piece of the text would keep the text
		}
		return ""
	}
	r.e = api.ErrShort
	return ""
}
