package trace

import (
	"strings"

	"kurgan/api"
	"kurgan/cell"
	"kurgan/digit"
)

const (
	mostEntries = 10000   // that are written
	mostText    = 1 << 20 // bytes that are read
)

// Write: entries as a text; Read: back, and the line that is wrong.
func Write(l []Entry) (string, api.Errno) {
	if len(l) > mostEntries {
		return "", api.ErrBig
	}
	var text strings.Builder
	for _, entry := range l {
		if !entry.inForm() {
			return "", api.ErrForm
		}
		text.WriteString(entry.line())
	}
	return text.String(), api.OK
}

func Read(s string) ([]Entry, int, api.Errno) {
	if len(s) > mostText {
		return nil, 0, api.ErrBig
	}
	var l []Entry
	for line := range strings.Lines(s) {
		entry, ok := entryOf(line)
		if !ok {
			return nil, len(l) + 1, api.ErrForm
		}
		l = append(l, entry)
	}
	return l, 0, api.OK
}

func (t Entry) inForm() bool {
	quiet := t.Op == cell.Op{}
	return t.Worker >= 0 && t.Worker < api.MaxWorkers && (quiet || nameOf(t.Op.Kind) != "" && t.Op.Cell >= 0)
}

// line: of an entry that is in form.
func (t Entry) line() string {
	text := digit.Write(t.Worker)
	if t.Op == (cell.Op{}) {
		return text + " -\n"
	}
	text += " " + nameOf(t.Op.Kind)
	for _, n := range []int{t.Op.Cell, t.Op.Old, t.Op.New} {
		text += " " + digit.Write(n)
	}
	if t.Op.Done {
		return text + " yes\n"
	}
	return text + " no\n"
}

// nameOf: "" of no kind.
func nameOf(kind int) string {
	switch kind {
	case cell.Read:
		return "read"
	case cell.Write:
		return "write"
	case cell.Swap:
		return "swap"
	case cell.Add:
		return "add"
	}
	return ""
}

// kindOf: 0: no kind has this name.
func kindOf(name string) int {
	for _, kind := range []int{cell.Read, cell.Write, cell.Swap, cell.Add} {
		if nameOf(kind) == name {
			return kind
		}
	}
	return 0
}

// entryOf: the entry of a line, line feed and all; false: it is none's.
func entryOf(line string) (Entry, bool) {
	line, ended := strings.CutSuffix(line, "\n")
	words := strings.Split(line, " ")
	worker, ok := number(words[0])
	if !ended || !ok || worker >= api.MaxWorkers {
		return Entry{}, false
	}
	if len(words) == 2 && words[1] == "-" {
		return Entry{Worker: worker}, true
	}
	op, ok := opOf(words[1:])
	return Entry{worker, op}, ok
}

func opOf(words []string) (cell.Op, bool) {
	if len(words) != 5 {
		return cell.Op{}, false
	}
	kind, done := kindOf(words[0]), words[4] == "yes"
	at, isCell := number(words[1])
	before, isOld := signed(words[2])
	after, isNew := signed(words[3])
	ok := kind != 0 && isCell && isOld && isNew && (done || words[4] == "no")
	return cell.Op{Kind: kind, Cell: at, Old: before, New: after, Done: done}, ok
}

// number: one of 18 digits at most; false: the word is none.
func number(word string) (int, bool) {
	n, next, e := digit.Read(word, 0)
	return n, e == api.OK && next == len(word)
}

// signed: a number that may be below 0.
func signed(word string) (int, bool) {
	digits, negative := strings.CutPrefix(word, "-")
	n, ok := number(digits)
	if !negative {
		return n, ok
	}
	return -n, ok && n != 0
}
