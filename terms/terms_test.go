package terms

import (
	"testing"

	"unwind/api"
)

func mustRead(t *testing.T, text string, names Names) *Term {
	t.Helper()
	term, errno := Read(text, names)
	if errno != api.OK || term == nil {
		t.Fatalf("Read(%q) = %v, %d", text, term, errno)
	}
	return term
}

// someNames has A, with a way back, and B, without.
func someNames(t *testing.T) Names {
	t.Helper()
	var names Names
	names[0] = mustRead(t, "+1", Names{})
	names[1] = mustRead(t, "a", Names{})
	return names
}

// What is read is written again as it was.
func TestReadAndWrite(t *testing.T) {
	names := someNames(t)
	for _, text := range []string{"", "nvaqwurszpmo", "+0", "+-1/2", "*1000000000", "=-7/1000000000", "<0", "<99", "<-99", "t0", "t12", "d0", "d12", "#0", "#11.0.10", "()^0", "(n)^999", "(n)^-999", "[:]", "[r:n]", "A", "BA", "((A)^1[#0.1:[B:q]])^-2a", "+1n"} {
		if term := mustRead(t, text, names); term.Text() != text {
			t.Errorf("Read(%q) is written %q", text, term.Text())
		}
	}
}

// Beside a refusal stands no term.
func TestNoTerm(t *testing.T) {
	for _, text := range []string{"x", "(", "[n:", "#0.0", "+", "Z", "(Z)^1", "Zx"} {
		if term, errno := Read(text, Names{}); errno == api.OK || term != nil {
			t.Errorf("Read(%q) = %v, %d", text, term, errno)
		}
	}
}

// Beside a refusal stands no opposite.
func TestNoOpposite(t *testing.T) {
	for _, text := range []string{"a", "*0", "=1", "t1", "d1", "#0", "(a)^1", "(q)^-1", "[a:n]", "[r:a]", "B"} {
		term := mustRead(t, text, someNames(t))
		if back, hasBack := term.Opposite(); hasBack || back != nil {
			t.Errorf("%q has an opposite: %v", text, back)
		}
		part, hasOpposite := term.Parts[0].Opposite()
		if hasOpposite || part.Letter != 0 || part.Body != nil {
			t.Errorf("the part %q has an opposite: %v", text, part)
		}
	}
}

// What is known of an opposite is the same as when its text is read.
func TestFactsOfOpposite(t *testing.T) {
	names := someNames(t)
	for _, text := range []string{"", "q", "p", "(q)^2", "A", "nA", "[A:q]", "[t1:(p)^3]", "r<1", "(r)^2", "(t1)^0", "*2+1s"} {
		back, hasBack := mustRead(t, text, names).Opposite()
		if !hasBack {
			t.Fatalf("%q has no opposite", text)
		}
		again := mustRead(t, back.Text(), names)
		if back.HasBack != again.HasBack || back.IsPicker != again.IsPicker || back.IsPlain != again.IsPlain {
			t.Errorf("the opposite of %q, %q, is %v, read again %v", text, back.Text(), back, again)
		}
	}
}

// To tell its opposite does not change a term, nor what it names.
func TestOppositeChangesNothing(t *testing.T) {
	names := someNames(t)
	const text = "+1A[rt1:A*2](An)^3"
	term := mustRead(t, text, names)
	for range 2 {
		back, _ := term.Opposite()
		if got := back.Text(); got != "(An)^-3[rt1:*1/2(A)^-1](A)^-1+-1" {
			t.Errorf("opposite: %q", got)
		}
	}
	if term.Text() != text || names[0].Text() != "+1" {
		t.Errorf("now %q, A is %q", term.Text(), names[0].Text())
	}
}

func TestPlace(t *testing.T) {
	for letter := 0; letter < 256; letter++ {
		place, isName := Place(byte(letter))
		want := letter >= 'A' && letter <= 'Z'
		if isName != want || want && place != letter-'A' || !want && place != 0 {
			t.Errorf("Place(%d) = %d, %v", letter, place, isName)
		}
	}
}
