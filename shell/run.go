package shell

import (
	"strings"

	"kurgan/api"
	"kurgan/cert"
	"kurgan/digit"
	"kurgan/kernel"
	"kurgan/solver"
	"kurgan/tape"
	"kurgan/tree"
)

// run: a machine for a valid problem, behind all parts of a script that Read returned.
func run(i api.Instance, s Script) *solver.Machine {
	m, _ := solver.New(i, s.Config, tape.New(nil, s.Draws)) // no error: problem and Config are within their limits
	for _, p := range s.Parts {
		p.perform(m, s.Config.Workers)
	}
	return m
}

func (p Part) perform(m *solver.Machine, workers int) {
	for _, who := range p.picks(workers) {
		if p.Kind == All && m.All(0) { // which picks nobody
			return
		}
		m.Pick(who)
	}
}

func (p Part) picks(workers int) []int {
	switch p.Kind {
	case Favor:
		return tape.Favor(workers, p.Who, p.Every, p.Count)
	case Mixed:
		return tape.Mixed(workers, p.Count, p.Seed)
	}
	return tape.Round(workers, p.Count)
}

// outcome tells what a machine has found.
func outcome(i api.Instance, m *solver.Machine) string {
	r := m.Result()
	if r.Status != solver.Done {
		return "UNFINISHED " + digit.Write(r.Value) + "\n" + numbers(r.X) + "\n"
	}
	return "DONE " + digit.Write(r.Value) + "\n" + proof(i, r, m)
}

func numbers(l []int) string {
	var words []string
	for _, n := range l {
		words = append(words, digit.Write(n))
	}
	return strings.Join(words, " ")
}

// proof: the certificate of a machine that is done.
func proof(i api.Instance, r solver.Result, m *solver.Machine) string {
	k, _ := kernel.Of(i)             // no error: the problem is valid
	word, _ := tree.Word(k, m.Met()) // no error: the records are a complete search
	text, e := cert.Write(cert.Cert{Value: r.Value, X: r.X, Tree: word})
	if e != api.OK {
		return "LONG\n"
	}
	return text
}
