package unwind

import (
	"strings"
	"testing"

	"unwind/api"
)

// told is what Facts and Opposite tell of a term.
type told struct {
	facts      int
	factsErrno api.Errno
	back       string
	backErrno  api.Errno
}

func tell(x *Session, term string) told {
	facts, factsErrno := x.Facts(term)
	back, backErrno := x.Opposite(term)
	return told{facts, factsErrno, back, backErrno}
}

// back is what is told of a term that has an opposite.
func back(facts int, opposite string) told {
	return told{facts: facts, back: opposite}
}

// noBack is what is told of a term that has none.
func noBack(facts int) told {
	return told{facts: facts, backErrno: api.ErrBack}
}

// refused is what is told of a text that is no term that could be used.
func refused(errno api.Errno) told {
	return told{factsErrno: errno, backErrno: errno}
}

func checkTold(t *testing.T, x *Session, term string, want told) {
	t.Helper()
	if got := tell(x, term); got != want {
		t.Errorf("P6, P7: %.60q is told %v, want %v", term, got, want)
	}
}

// saying is a term and what must be told of it.
type saying struct {
	term string
	want told
}

func checkAll(t *testing.T, x *Session, sayings []saying) {
	t.Helper()
	for _, each := range sayings {
		checkTold(t, x, each.term, each.want)
	}
}

func define(t *testing.T, x *Session, name, term string, want api.Errno) {
	t.Helper()
	if errno := x.Define(name, term); errno != want {
		t.Errorf("P5: Define(%.20q, %.60q) = %d, want %d", name, term, errno, want)
	}
}

// The examples of the document that speak of terms, word for word.
func TestTermExamples(t *testing.T) {
	x := New()
	for _, c := range []struct{ term, back string }{{"+1*2/3r", "r*3/2+-1"}, {"(q)^3<2", "<-2(q)^-3"}, {"[t2:s]", "[t2:z]"}, {"(a)^0", "(a)^0"}} {
		if text, errno := x.Opposite(c.term); text != c.back || errno != api.OK {
			t.Errorf("P7: Opposite(%q) = %q, %d", c.term, text, errno)
		}
	}
	for _, term := range []string{"a", "*0", "(q)^-1", "[q:n]"} {
		if text, errno := x.Opposite(term); text != "" || errno != api.ErrBack {
			t.Errorf("P7: Opposite(%q) = %q, %d", term, text, errno)
		}
	}
	for _, c := range []struct {
		term  string
		facts int
	}{{"rt1", 6}, {"r", 7}, {"q", 1}, {"(q)^-1", 0}, {"(u)^-1", 5}, {"a", 4}, {"(a)^0", 5}, {"", 7}} {
		if facts, errno := x.Facts(c.term); facts != c.facts || errno != api.OK {
			t.Errorf("P6: Facts(%q) = %d, %d", c.term, facts, errno)
		}
	}
	define(t, x, "A", "+1", api.OK)
	define(t, x, "B", "A*2", api.OK)
	define(t, x, "A", "An", api.OK)
	if text, errno := x.Opposite("A"); text != "(A)^-1" || errno != api.OK {
		t.Errorf("P7: Opposite(A) = %q, %d", text, errno)
	}
}

// Each row of the table of parts.
func TestEachPart(t *testing.T) {
	x := New()
	checkAll(t, x, []saying{
		{"", back(7, "")},
		{"n", back(5, "n")}, {"v", back(5, "v")}, {"a", noBack(4)},
		{"q", back(1, "w")}, {"w", back(5, "u")}, {"u", back(5, "w")},
		{"+1", back(5, "+-1")}, {"+0", back(5, "+0")}, {"+-7/2", back(5, "+7/2")},
		{"*2", back(5, "*1/2")}, {"*-2/3", back(5, "*-3/2")}, {"*1", back(5, "*1")}, {"*-1", back(5, "*-1")}, {"*0", noBack(4)},
		{"=1", noBack(4)}, {"=0", noBack(4)},
		{"r", back(7, "r")}, {"<3", back(7, "<-3")}, {"<-3", back(7, "<3")}, {"<0", back(7, "<0")},
		{"s", back(5, "z")}, {"z", back(5, "s")}, {"p", back(1, "o")}, {"m", back(5, "o")}, {"o", back(5, "m")},
		{"t1", noBack(6)}, {"d1", noBack(6)}, {"#1", noBack(6)}, {"#2.0.1", noBack(6)},
	})
}

// Powers: 0 turns, turns there and back; of terms with and without a way
// back, plain or not, pickers or not.
func TestPowers(t *testing.T) {
	x := New()
	checkAll(t, x, []saying{
		{"()^0", back(7, "()^0")}, {"()^5", back(7, "()^-5")}, {"(n)^2", back(5, "(n)^-2")}, {"(n)^-2", back(5, "(n)^2")},
		{"(a)^0", back(5, "(a)^0")}, {"(a)^1", noBack(4)}, {"(a)^-1", noBack(4)},
		{"(q)^0", back(1, "(q)^0")}, {"(q)^1", back(1, "(q)^-1")}, {"(q)^-1", noBack(0)}, {"(p)^-1", noBack(0)}, {"(u)^-1", back(5, "(u)^1")}, {"(m)^-1", back(5, "(m)^1")},
		{"(qa)^0", back(1, "(qa)^0")}, {"(qa)^1", noBack(0)}, {"(qa)^-1", noBack(0)},
		{"(r)^3", back(7, "(r)^-3")}, {"(r)^-3", back(7, "(r)^3")}, {"(t1)^0", back(7, "(t1)^0")}, {"(t1)^1", noBack(6)}, {"(t1)^-1", noBack(6)},
		{"((q)^0)^1", back(1, "((q)^0)^-1")}, {"((q)^0)^-1", noBack(0)}, {"((q)^-1)^0", back(1, "((q)^-1)^0")}, {"((q)^-1)^1", noBack(0)}, {"((a)^0)^-4", back(5, "((a)^0)^4")}, {"((t1)^0)^-4", back(7, "((t1)^0)^4")},
		{"(n+1)^2", back(5, "(n+1)^-2")}, {"(#2.0.1t1d0<-1)^0", back(7, "(#2.0.1t1d0<-1)^0")}, {"(=1/2*-3)^0", back(5, "(=1/2*-3)^0")},
	})
}

// Unders: of each kind of s and of g.
func TestUnders(t *testing.T) {
	x := New()
	checkAll(t, x, []saying{
		{"[:]", back(5, "[:]")}, {"[r:r]", back(5, "[r:r]")}, {"[r:t1]", noBack(4)},
		{"[t1:s+1]", back(5, "[t1:+-1z]")}, {"[#1.0d0t1:q]", back(1, "[#1.0d0t1:w]")}, {"[t1:a]", noBack(4)}, {"[t1:qa]", noBack(0)},
		{"[v:s]", back(5, "[v:z]")}, {"[v:a]", noBack(4)}, {"[v:q]", back(1, "[v:w]")}, {"[w:n]", back(5, "[w:n]")},
		{"[q:n]", noBack(0)}, {"[p:a]", noBack(0)}, {"[a:n]", noBack(4)}, {"[a:]", noBack(4)}, {"[aq:n]", noBack(0)}, {"[ta:n]", refused(api.ErrTerm)}, {"[t1a:n]", noBack(4)}, {"[t1v:n]", noBack(4)},
		{"[(q)^0:n]", noBack(0)}, {"[(a)^0:n]", back(5, "[(a)^0:n]")}, {"[(t1)^-1:n]", back(5, "[(t1)^-1:n]")}, {"[(t1)^-1v:n]", noBack(4)}, {"[(q)^-1:n]", noBack(0)},
		{"[[r:n]:v]", back(5, "[[r:n]:v]")}, {"[[t1:r]:v]", back(5, "[[t1:r]:v]")}, {"[[t1:q]:v]", noBack(0)}, {"[[q:n]:v]", noBack(0)}, {"[[t1:a]:v]", noBack(4)},
		{"[r:[v:[t1:q]]]", back(1, "[r:[v:[t1:w]]]")}, {"[v:n(q)^2]", back(1, "[v:(q)^-2n]")}, {"[v:n(q)^-2]", noBack(0)},
		{"([v:s])^-2", back(5, "([v:s])^2")}, {"([v:q])^-2", noBack(0)},
	})
}

// Facts hold for a term if they hold for each part, wherever it stands.
func TestPartsTogether(t *testing.T) {
	x := New()
	checkAll(t, x, []saying{
		{"nvs", back(5, "zvn")}, {"anv", noBack(4)}, {"nva", noBack(4)}, {"nav", noBack(4)},
		{"qnr", back(1, "rnw")}, {"nrp", back(1, "orn")}, {"rt1", noBack(6)}, {"t1r", noBack(6)}, {"rn", back(5, "nr")}, {"nr", back(5, "rn")}, {"t1n", noBack(4)}, {"[:]r", back(5, "r[:]")}, {"r[:]", back(5, "[:]r")},
		{"qt1", noBack(0)}, {"t1p", noBack(0)}, {"(r)^1<2", back(7, "<-2(r)^-1")}, {"+12t3", noBack(4)}, {"+1/2<3", back(5, "<-3+-1/2")}, {"*3/2n(n)^1n", back(5, "n(n)^-1n*2/3")},
	})
}

// Both sides of each bound of a number in a term.
func TestBoundsOfNumbers(t *testing.T) {
	x := New()
	checkAll(t, x, []saying{
		{"<99", back(7, "<-99")}, {"<-99", back(7, "<99")}, {"<100", refused(api.ErrTerm)}, {"<-100", refused(api.ErrTerm)},
		{"(n)^999", back(5, "(n)^-999")}, {"(n)^-999", back(5, "(n)^999")}, {"(n)^1000", refused(api.ErrTerm)}, {"(n)^-1000", refused(api.ErrTerm)},
		{"t0", noBack(6)}, {"t12", noBack(6)}, {"t13", refused(api.ErrTerm)}, {"t-1", refused(api.ErrTerm)}, {"d0", noBack(6)}, {"d12", noBack(6)}, {"d13", refused(api.ErrTerm)}, {"d-1", refused(api.ErrTerm)},
		{"#0", noBack(6)}, {"#11", noBack(6)}, {"#12", refused(api.ErrTerm)}, {"#-1", refused(api.ErrTerm)}, {"#0.12", refused(api.ErrTerm)}, {"#11.10.9.8.7.6.5.4.3.2.1.0", noBack(6)}, {"#11.10.9.8.7.6.5.4.3.2.1.0.11", refused(api.ErrTerm)}, {"#0.1.0", refused(api.ErrTerm)}, {"#1.1", refused(api.ErrTerm)},
		{"+1000000000", back(5, "+-1000000000")}, {"+-1000000000", back(5, "+1000000000")}, {"+1000000001", refused(api.ErrTerm)}, {"+-1000000001", refused(api.ErrTerm)},
		{"*1000000000", back(5, "*1/1000000000")}, {"*-1/1000000000", back(5, "*-1000000000")}, {"*1/1000000001", refused(api.ErrTerm)}, {"*999999999/1000000000", back(5, "*1000000000/999999999")},
		{"=-1000000000", noBack(4)}, {"=1/1000000000", noBack(4)}, {"=1000000001", refused(api.ErrTerm)},
		{"<18446744073709551617", refused(api.ErrTerm)}, {"t4294967297", refused(api.ErrTerm)}, {"#4294967296", refused(api.ErrTerm)}, {"()^18446744073709551616", refused(api.ErrTerm)},
	})
}

// Texts that are no term, alone, beside others, and within brackets.
func TestNoTerms(t *testing.T) {
	x := New()
	for _, text := range []string{
		"(", ")", "[", "]", ":", "^", "^1", "(n", "n)", "(n)", "(n)^", "(n)1", "(n^1", "()", "(n)^-", "(n)^--1", "(n)^+1", "(n)^-0", "(n)^00", "(n)^01", "(n)^1/2", "(n)^1/", "(n)^x", "(n]^1", "(n:n)^1", "(n) ^1",
		"[n]", "[n:", "[:", "[n:n", "[n:n)", "[n)n]", "[n:n:n]", "[n::n]", "[n,n]", "([n)^1:n]", "[(n:n)^1]", "[n:(n]", "]n:n[",
		"#", "#.", "#0.", "#.0", "#0..1", "#00", "#01", "#0.01", "#-0", "#0/1", "#1/2", "#0,1", "#n", "#0.n",
		"t", "tn", "t-0", "t00", "t01", "t1/2", "t1/", "t+1", "d", "dt1", "d-0", "d012", "d1/2", "<", "<n", "<-", "<--1", "<-0", "<00", "<01", "<1/2", "<1/", "<+1", "<<1",
		"+", "+-", "+-0", "+00", "+01", "+1/", "+1/0", "+1/1", "+2/4", "+1/02", "+1/-2", "+1/2/3", "+/2", "+-/2", "++1", "+n", "+1.5", "*", "*-0", "*4/2", "**2", "=", "=-", "=0/1", "==1", "=n", "-1",
		"0", "1", "12", "/", ".", "-", ",", " ", "n ", " n", "n n", "n\n", "n\x00", "N0", "b", "c", "e", "x", "y", "\xb1", "\u00e4", "\u0391", "n\u0663", "t\u0663",
	} {
		for _, term := range []string{text, "n" + text, text + ")", "A" + text, "(" + text + ")^1", "[" + text + ":n]", "[n:" + text + "]"} {
			checkTold(t, x, term, refused(api.ErrTerm))
			define(t, x, "Q", term, api.ErrTerm)
		}
	}
	checkTold(t, x, "Q", refused(api.ErrUnknown))
}

// Every byte alone, and behind each part that has a number to be read.
func TestEveryByteOfATerm(t *testing.T) {
	x := New()
	define(t, x, "A", "r", api.OK)
	for letter := 0; letter < 256; letter++ {
		s := string([]byte{byte(letter)})
		for _, term := range []string{s, "n" + s, s + "1", "+" + s, "+1" + s, "+1/3" + s, "+1/3" + s + "1", "<1" + s, "<" + s + "1", "t1" + s, "#1" + s, "#1" + s + "2", "(r" + s, "(r)" + s, "(r)" + s + "2", "(r)^" + s, "(r)^2" + s, "[r" + s + "r]", "[r:r" + s, "A" + s} {
			checkJudged(t, x, book{'A': mustJudge(t, "r", book{})}, term)
		}
	}
}

// A name is one letter A to Z; every other text is refused ahead of the term.
func TestNames(t *testing.T) {
	x := New()
	for letter := 0; letter < 256; letter++ {
		name := string([]byte{byte(letter)})
		if letter >= 'A' && letter <= 'Z' {
			define(t, x, name, "t1", api.OK)
			checkTold(t, x, name, noBack(6))
			continue
		}
		define(t, x, name, "n", api.ErrName)
	}
	const many = 1000000
	for _, name := range []string{"", "AA", "AB", "A ", " A", "A\x00", "\u00c4", "\u0391", "\xff", "(A)^1", strings.Repeat("A", many)} {
		for _, term := range []string{"n", "", ")", "A", strings.Repeat("n", api.MaxTerm+1)} {
			define(t, x, name, term, api.ErrName)
		}
	}
	checkTold(t, x, "A", noBack(6))
}

// The length of a term and of its opposite, at both sides of MaxTerm.
func TestLengths(t *testing.T) {
	x := New()
	define(t, x, "A", "+1", api.OK)
	define(t, x, "B", "a", api.OK)
	times := strings.Repeat
	checkAll(t, x, []saying{
		{times("n", 119), back(5, times("n", 119))}, {times("n", 120), back(5, times("n", 120))}, {times("n", 121), refused(api.ErrLong)},
		{times("A", 20), back(5, times("(A)^-1", 20))}, {times("A", 20) + "n", told{facts: 5, backErrno: api.ErrLong}}, {times("A", 120), told{facts: 5, backErrno: api.ErrLong}},
		{times("+1", 40), back(5, times("+-1", 40))}, {times("+1", 40) + "n", told{facts: 5, backErrno: api.ErrLong}}, {times("+-1", 40), back(5, times("+1", 40))},
		{times("*1/2", 30), back(5, times("*2", 30))}, {times("*2", 30) + "n", told{facts: 5, backErrno: api.ErrLong}},
		{"[" + times("t1", 57) + ":+1]", back(5, "["+times("t1", 57)+":+-1]")}, {"[" + times("t1", 57) + "r:+1]", told{facts: 5, backErrno: api.ErrLong}}, {"[" + times("t1", 57) + "r:+-1]", refused(api.ErrLong)},
		{"(" + times("a", 116) + ")^0", back(5, "("+times("a", 116)+")^0")}, {"(" + times("n", 116) + ")^1", told{facts: 5, backErrno: api.ErrLong}},
		{"a" + times("A", 119), noBack(4)}, {times("A", 119) + "B", noBack(4)},
		{times("(", 29) + "n" + times(")^1", 29), told{facts: 5, backErrno: api.OK, back: times("(", 29) + "n" + times(")^1", 28) + ")^-1"}},
		{times("[:", 40), refused(api.ErrTerm)}, {times("[:", 40) + times("]", 40), back(5, times("[:", 40)+times("]", 40))}, {times("[", 40) + times(":]", 40), back(5, times("[", 40)+times(":]", 40))},
		{times("(", 120), refused(api.ErrTerm)}, {times("[", 120), refused(api.ErrTerm)}, {times(")", 120), refused(api.ErrTerm)}, {times("A", 119) + "x", refused(api.ErrTerm)}, {times("C", 120), refused(api.ErrUnknown)}, {"+" + times("1", 119), refused(api.ErrTerm)}, {"+1/" + times("0", 116) + "3", refused(api.ErrTerm)},
	})
}

// Texts of any length end at once.
func TestEndlessTexts(t *testing.T) {
	x := New()
	const many = 3000000
	for _, piece := range []string{"n", "(", ")", "[", "]", "[:", "A", "1", "+1", "#0.", "\x00", "\xff", "(n)^1", " "} {
		text := strings.Repeat(piece, many/len(piece))
		checkTold(t, x, text, refused(api.ErrLong))
		define(t, x, "A", text, api.ErrLong)
	}
	checkTold(t, x, "A", refused(api.ErrUnknown))
}

// Where several errors apply, the one that is named first is answered.
func TestOrderOfErrors(t *testing.T) {
	x := New()
	long := strings.Repeat("n", api.MaxTerm)
	define(t, x, "a", long+"(A", api.ErrName)
	define(t, x, "A", long+"(A", api.ErrLong)
	define(t, x, "A", "A(", api.ErrTerm)
	define(t, x, "A", "(A", api.ErrTerm)
	define(t, x, "A", "A", api.ErrUnknown)
	for _, c := range []struct {
		term  string
		errno api.Errno
	}{{long + "(A", api.ErrLong}, {"A(", api.ErrTerm}, {"(A)^1000", api.ErrTerm}, {"[A:A]x", api.ErrTerm}, {"aA", api.ErrUnknown}, {"Aa", api.ErrUnknown}, {"(A)^0", api.ErrUnknown}, {"[A:n]", api.ErrUnknown}, {"[n:A]", api.ErrUnknown}, {strings.Repeat("A", api.MaxTerm), api.ErrUnknown}} {
		checkTold(t, x, c.term, refused(c.errno))
	}
	define(t, x, "A", "n", api.OK)
	checkTold(t, x, strings.Repeat("A", 100)+"a", noBack(4))
	checkTold(t, x, strings.Repeat("A", 100)+"B", refused(api.ErrUnknown))
	checkTold(t, x, strings.Repeat("A", 100)+"B(", refused(api.ErrTerm))
}

// A name in a definition stands, for ever, for what it stood for then.
func TestNamesStayBound(t *testing.T) {
	x := New()
	define(t, x, "A", "A", api.ErrUnknown)
	define(t, x, "A", "t1", api.OK)
	define(t, x, "Z", "AA", api.OK)
	define(t, x, "Y", "(A)^0", api.OK)
	define(t, x, "A", "Aq", api.OK)
	define(t, x, "B", "A", api.OK)
	define(t, x, "A", "v", api.OK)
	define(t, x, "C", "[Z:A]", api.OK)
	define(t, x, "D", "[A:B]", api.OK)
	define(t, x, "E", "[A:]", api.OK)
	define(t, x, "Z", "p", api.OK)
	define(t, x, "A", "A(A)^2[A:A]", api.OK)
	define(t, x, "F", "AZ", api.OK)
	checkAll(t, x, []saying{
		{"Y", back(7, "(Y)^-1")}, {"B", noBack(0)}, {"C", back(5, "(C)^-1")}, {"D", noBack(0)}, {"E", back(5, "(E)^-1")}, {"Z", back(1, "(Z)^-1")}, {"A", back(5, "(A)^-1")}, {"F", back(1, "(F)^-1")},
		{"(A)^-2", back(5, "(A)^2")}, {"(Z)^2", back(1, "(Z)^-2")}, {"(Z)^-2", noBack(0)}, {"(B)^0", back(1, "(B)^0")}, {"[A:Z]", back(1, "[A:(Z)^-1]")}, {"[Z:A]", noBack(0)}, {"[Y:A]", back(5, "[Y:(A)^-1]")}, {"[B:A]", noBack(0)},
		{"AYA", back(5, "(A)^-1(Y)^-1(A)^-1")}, {"G", refused(api.ErrUnknown)}, {"GA", refused(api.ErrUnknown)},
	})
}

// A refused call changes nothing (P1), and no session another (P2).
func TestSessionsApart(t *testing.T) {
	x, y := New(), New()
	define(t, x, "A", "t1", api.OK)
	define(t, y, "A", "q", api.OK)
	define(t, y, "B", "A", api.OK)
	for range 2 {
		define(t, x, "A", "n(", api.ErrTerm)
		define(t, x, "A", "nB", api.ErrUnknown)
		define(t, x, "A", strings.Repeat("n", api.MaxTerm+1), api.ErrLong)
		define(t, x, "AB", "n", api.ErrName)
		checkTold(t, x, "A", noBack(6))
		checkTold(t, x, "B", refused(api.ErrUnknown))
		checkTold(t, y, "A", back(1, "(A)^-1"))
		checkTold(t, y, "B", back(1, "(B)^-1"))
		checkTold(t, New(), "A", refused(api.ErrUnknown))
	}
}

// Names within names stand for more parts than could be counted.
func TestNamesWithinNames(t *testing.T) {
	x := New()
	define(t, x, "A", "r", api.OK)
	for range 2000 {
		define(t, x, "A", strings.Repeat("A", api.MaxTerm), api.OK)
	}
	checkTold(t, x, "A", back(7, "(A)^-1"))
	define(t, x, "B", "An", api.OK)
	for range 100000 {
		define(t, x, "B", "[B:B]", api.OK)
	}
	checkTold(t, x, "B", back(5, "(B)^-1"))
	define(t, x, "B", "Bp", api.OK)
	checkTold(t, x, "(B)^1", back(1, "(B)^-1"))
	checkTold(t, x, "(B)^-1", noBack(0))
}
