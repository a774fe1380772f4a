package shell_test

import (
	"fmt"
	"math/rand"
	"strings"
	"testing"

	"kurgan/api"
	"kurgan/cert"
	"kurgan/check"
	"kurgan/exact"
	"kurgan/parse"
	"kurgan/shell"
	"kurgan/value"
)

// plainVerify is the chapter's Verify.
func plainVerify(problem, certificate string) string {
	i, at, e := parse.Parse(problem)
	if e != api.OK {
		return fmt.Sprintf("ERROR %d%s\n", e, located(problem, at))
	}
	c, at, e := cert.Read(certificate)
	if e != api.OK {
		return fmt.Sprintf("CERT ERROR %d%s\n", e, located(certificate, at))
	}
	if e := check.Check(i, c); e != api.OK {
		return fmt.Sprintf("INVALID %d\n", e)
	}
	return fmt.Sprintf("VALID %d\n", c.Value)
}

// holdVerify holds Verify against the plain one; and what is VALID is a best solution. It answers the first word.
func holdVerify(t *testing.T, problem, certificate string) string {
	t.Helper()
	got := shell.Verify(problem, certificate)
	if want := plainVerify(problem, certificate); got != want {
		t.Fatalf("Verify(%.300q, %.300q) = %q, not %q", problem, certificate, got, want)
	}
	word, _, _ := strings.Cut(got, " ")
	if word == "VALID" {
		i, _, _ := parse.Parse(problem)
		c, _, _ := cert.Read(certificate)
		worth, e := value.Value(i, c.X)
		if e != api.OK || got != fmt.Sprintf("VALID %d\n", worth) {
			t.Fatalf("%q, %q: %q, but %d, %d", problem, certificate, got, worth, e)
		}
		if x, _, e := exact.Best(i); e == api.OK {
			if best, _ := value.Value(i, x); best != worth {
				t.Fatalf("%q, %q: %q, but %d is best", problem, certificate, got, best)
			}
		}
	}
	return word
}

// solved is the certificate of a problem's result DONE.
func solved(t *testing.T, problem, script string) string {
	t.Helper()
	_, certificate, _ := strings.Cut(shell.Solve(problem, script), "\n")
	if got := shell.Verify(problem, certificate); !strings.HasPrefix(got, "VALID ") {
		t.Fatalf("%q, %q: %q", problem, certificate, got)
	}
	return certificate
}

func TestVerify(t *testing.T) {
	const one, two, ways = "KNAPSACK 1 1 1 5", "ASSIGNMENT 2 1 2 3 9", "TSP 3 UPPER 5 5 5"
	for _, c := range []struct{ problem, certificate, told string }{
		{one, "CERT 5 1\n1\nbpl\n", "VALID 5\n"}, {one, "CERT 5 1\n1\np\n", "VALID 5\n"}, {one, "CERT 5 1\n1\nbll\n", "VALID 5\n"},
		{one, "CERT 4 1\n1\np\n", "INVALID 13\n"}, {one, "CERT 0 1\n0\nbll\n", "INVALID 13\n"}, {one, "CERT 0 1\n0\np\n", "INVALID 13\n"}, {one, "CERT 5 1\n2\np\n", "INVALID 1\n"}, {one, "CERT 5 2\n1 0\np\n", "INVALID 1\n"}, {"KNAPSACK 1 0 1 5", "CERT 5 1\n1\np\n", "INVALID 9\n"}, {"KNAPSACK 1 0 1 5", "CERT 0 1\n0\nbl\n", "VALID 0\n"},
		{one, "CERT 5 1\n1\nb\n", "INVALID 6\n"}, {one, "CERT 5 1\n1\npp\n", "INVALID 7\n"}, {one, "CERT 5 1\n1\nl\n", "INVALID 8\n"}, {one, "CERT 5 1\n1\nbbp\n", "INVALID 8\n"},
		{two, "CERT 5 2\n1 0\np\n", "VALID 5\n"}, {two, "CERT 10 2\n0 1\np\n", "INVALID 13\n"}, {two, "CERT 10 2\n0 1\nbpp\n", "INVALID 13\n"}, {two, "CERT 5 2\n1 1\np\n", "INVALID 1\n"},
		{ways, "CERT 15 3\n0 2 1\np\n", "VALID 15\n"}, {ways, "CERT 15 3\n0 1 2\nbblbl\n", "VALID 15\n"}, {ways, "CERT 15 3\n1 2 0\np\n", "INVALID 1\n"}, {ways, "CERT 14 3\n0 1 2\np\n", "INVALID 13\n"},
		{one, "", "CERT ERROR 6 at 1 1\n"}, {one, "x", "CERT ERROR 2 at 1 1\n"}, {one, "CERT x", "CERT ERROR 4 at 1 6\n"}, {one, "CERT 5 0\n", "CERT ERROR 1 at 1 8\n"}, {one, "CERT 5 65\n", "CERT ERROR 5 at 1 8\n"}, {one, "CERT 5 1\n1\npx\n", "CERT ERROR 2 at 3 2\n"}, {one, "CERT 5 1\n1\npü\n", "CERT ERROR 2 at 3 2\n"}, {one, "CERT 5 1\n1\np", "CERT ERROR 6 at 3 2\n"}, {one, "CERT 5 1\n1\np\n\n", "CERT ERROR 7 at 4 1\n"}, {one, "CERT 5 1\n1\np\nü", "CERT ERROR 7 at 4 1\n"}, {one, "CERT 5 1\n1000\np\n", "CERT ERROR 5 at 2 1\n"}, {one, "CERT 5 1\n1\n\xff", "CERT ERROR 2 at 3 1\n"},
	} {
		if got := shell.Verify(c.problem, c.certificate); got != c.told {
			t.Errorf("Verify(%q, %q) = %q, not %q", c.problem, c.certificate, got, c.told)
		}
		holdVerify(t, c.problem, c.certificate)
	}
	for _, p := range wrongProblems {
		for _, certificate := range []string{"", "x", "CERT 5 1\n1\np\n", "CERT 5 1\n1\npp\n"} {
			if got := shell.Verify(p.problem, certificate); got != p.told {
				t.Errorf("Verify(%.50q, %q) = %q", p.problem, certificate, got)
			}
		}
	}
}

// The certificates of all results DONE, of each kind of problem; and those of one problem for another.
func TestVerifySolved(t *testing.T) {
	r := rand.New(rand.NewSource(441))
	met := map[string]int{}
	for round := range 60 {
		kind := 1 + round%3
		n := 1 + r.Intn([]int{0, 12, 7, 7}[kind])
		problem, other := text(drawn(r, kind, n, 100)), text(drawn(r, kind, n, 100))
		for _, script := range configs {
			certificate := solved(t, problem, script+"all 1000000\n")
			holdVerify(t, problem, certificate)
			met[holdVerify(t, other, certificate)]++
			met[holdVerify(t, text(drawn(r, 1+r.Intn(3), n, 5)), certificate)]++
		}
	}
	if met["VALID"] < 10 || met["INVALID"] < 100 {
		t.Error(met)
	}
}

// Certificates cut short, or changed at each place.
func TestChangedCertificates(t *testing.T) {
	r := rand.New(rand.NewSource(442))
	met := map[string]int{}
	for round := range 30 {
		kind := 1 + round%3
		problem := text(drawn(r, kind, 1+r.Intn([]int{0, 6, 4, 5}[kind]), []int{2, 4, 30}[r.Intn(3)]))
		certificate := solved(t, problem, "all 100000")
		for at := range len(certificate) {
			if word := holdVerify(t, problem, certificate[:at]); word != "CERT" {
				t.Fatalf("%q", certificate[:at])
			}
			met[holdVerify(t, problem, certificate[:at]+certificate[at+1:])]++
			for b := range 256 {
				met[holdVerify(t, problem, certificate[:at]+string([]byte{byte(b)})+certificate[at+1:])]++
			}
			for _, piece := range []string{"p", "b", "l", "0", "1", "9", " ", "\n", "ü", "\xff", "\r"} {
				met[holdVerify(t, problem, certificate[:at]+piece+certificate[at:])]++
			}
		}
		for _, tail := range []string{"p", "\n", " ", "ü", certificate} {
			if got := holdVerify(t, problem, certificate+tail); got != "CERT" {
				t.Fatal(got)
			}
		}
	}
	for _, word := range []string{"VALID", "INVALID", "CERT"} {
		if met[word] < 100 {
			t.Error(met)
		}
	}
}

// Certificates that nobody made: another value, another answer, another word.
func TestDrawnCertificates(t *testing.T) {
	r := rand.New(rand.NewSource(443))
	met := map[string]int{}
	for range 30000 {
		kind := 1 + r.Intn(3)
		i := drawn(r, kind, 1+r.Intn(4), []int{2, 9}[r.Intn(2)])
		c := cert.Cert{X: r.Perm(i.N)}
		if kind == api.Knapsack {
			for at := range c.X {
				c.X[at] = r.Intn(2)
			}
		}
		c.Value, _ = value.Value(i, c.X)
		if r.Intn(6) == 0 {
			c.Value += r.Intn(3)
		}
		for range 1 + r.Intn(9) {
			c.Tree += string("ppbbbl"[r.Intn(6)])
		}
		certificate, _ := cert.Write(c)
		met[holdVerify(t, text(i), certificate)]++
	}
	if met["VALID"] < 500 || met["INVALID"] < 5000 {
		t.Error(met)
	}
}
