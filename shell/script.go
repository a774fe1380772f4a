package shell

import (
	"slices"
	"strings"

	"kurgan/api"
	"kurgan/digit"
)

// What a script may have at most.
const (
	mostDraws = 100
	mostParts = 50
	mostCount = 1000000
	mostEvery = 1000000
)

// reader is what the lines of a text have told so far.
type reader struct {
	script Script
	told   []string // the words of the lines that may stand there once
}

// line reads the next line; false: none that is so may stand there.
func (r *reader) line(line string) bool {
	if line == "" || line[0] == '#' {
		return true
	}
	words := strings.Split(line, " ")
	var l []int
	for _, word := range words[1:] {
		n, ok := number(word)
		if !ok {
			return false
		}
		l = append(l, n)
	}
	switch words[0] {
	case "workers", "slots", "levels", "draws":
		return r.setting(words[0], l)
	}
	return r.part(words[0], l)
}

// number: one of 18 digits at most, and so below 10^18; false: the word is none.
func number(word string) (int, bool) {
	n, next, e := digit.Read(word, 0)
	return n, e == api.OK && next == len(word)
}

// setting reads a line that may stand there once, ahead of the parts.
func (r *reader) setting(word string, l []int) bool {
	if slices.Contains(r.told, word) || len(r.script.Parts) > 0 {
		return false
	}
	r.told = append(r.told, word)
	switch word {
	case "workers":
		return one(l, api.MaxWorkers, &r.script.Config.Workers)
	case "slots":
		return one(l, api.MaxSlots, &r.script.Config.Slots)
	case "levels":
		return one(l, api.MaxLevels, &r.script.Config.Levels)
	}
	r.script.Draws = l
	return len(l) <= mostDraws
}

// one keeps the number of a line that has a single one, from 1 to most.
func one(l []int, most int, to *int) bool {
	if len(l) != 1 || l[0] < 1 || l[0] > most {
		return false
	}
	*to = l[0]
	return true
}

func (r *reader) part(word string, l []int) bool {
	p := partOf(word, l)
	switch {
	case p.Kind == 0, len(r.script.Parts) == mostParts, p.Count > mostCount, p.Who >= r.script.Config.Workers:
		return false
	case p.Kind == Favor && (p.Every < 1 || p.Every > mostEvery):
		return false
	}
	r.script.Parts = append(r.script.Parts, p)
	return true
}

// partOf: the Kind is 0 if there is no such line.
func partOf(word string, l []int) Part {
	switch {
	case word == "round" && len(l) == 1:
		return Part{Kind: Round, Count: l[0]}
	case word == "favor" && len(l) == 3:
		return Part{Kind: Favor, Who: l[0], Every: l[1], Count: l[2]}
	case word == "mixed" && len(l) == 2:
		return Part{Kind: Mixed, Count: l[0], Seed: uint64(l[1])}
	case word == "all" && len(l) == 1:
		return Part{Kind: All, Count: l[0]}
	}
	return Part{}
}

// text: the lines of a script, even of one that no text has.
func (s Script) text() string {
	text := lineOf("workers", s.Config.Workers) + lineOf("slots", s.Config.Slots) + lineOf("levels", s.Config.Levels)
	if len(s.Draws) > 0 {
		text += lineOf("draws", s.Draws...)
	}
	for _, p := range s.Parts {
		text += p.text()
	}
	return text
}

func (p Part) text() string {
	switch p.Kind {
	case Round:
		return lineOf("round", p.Count)
	case Favor:
		return lineOf("favor", p.Who, p.Every, p.Count)
	case Mixed:
		return lineOf("mixed", p.Count, int(p.Seed)) // a Seed that no int is comes below 0, where none is read
	case All:
		return lineOf("all", p.Count)
	}
	return ""
}

func lineOf(word string, l ...int) string {
	for _, n := range l {
		word += " " + digit.Write(n)
	}
	return word + "\n"
}

func same(a, b Script) bool {
	return a.Config == b.Config && slices.Equal(a.Draws, b.Draws) && slices.Equal(a.Parts, b.Parts)
}
