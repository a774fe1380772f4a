// Package digit is layer 3: signs, numbers and places of a text: see shared/doc/03-digit.md.
package digit

import (
	"strconv"

	"kurgan/api"
)

// Kinds of signs.
const (
	Other  = 0
	Blank  = 1
	Digit  = 2
	Letter = 3
	Remark = 4
)

// mostDigits is how many digits a number may have and be an int for sure.
const mostDigits = 18

// Kind: of a sign.
func Kind(r rune) int {
	switch {
	case r == ' ', r == '\t', r == '\n', r == '\r':
		return Blank
	case r >= '0' && r <= '9':
		return Digit
	case r >= 'A' && r <= 'Z', r >= 'a' && r <= 'z':
		return Letter
	case r == '#':
		return Remark
	}
	return Other
}

// Read: the number that begins at a place, and where it ends; Write: a number as digits.
func Read(s string, at int) (n, next int, e api.Errno) {
	if at < 0 || at > len(s) {
		return 0, 0, api.ErrArg
	}
	digits := 0
	for _, r := range s[at:] {
		if Kind(r) != Digit {
			break
		}
		digits++
		if digits > mostDigits { // how many more follow makes no difference
			break
		}
		n = 10*n + int(r-'0')
	}
	switch {
	case digits == 0, digits > 1 && s[at] == '0':
		return 0, 0, api.ErrNumber
	case digits > mostDigits:
		return 0, 0, api.ErrBig
	}
	return n, at + digits, api.OK
}

func Write(n int) string { return strconv.Itoa(n) }

// Place: the line and the column of a byte; Signs: how many signs a text has.
func Place(s string, at int) (line, column int) {
	line, column = 1, 1
	// Over the whole text, not s[:at]: cut within a sign, that would have more signs.
	for i, r := range s {
		if i >= at {
			break
		}
		if r == '\n' {
			line, column = line+1, 1
		} else {
			column++
		}
	}
	return line, column
}

func Signs(s string) int {
	n := 0
	for range s {
		n++
	}
	return n
}
