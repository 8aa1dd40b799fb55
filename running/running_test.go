package running

import (
	"testing"

	"unwind/api"
	"unwind/lists"
	"unwind/number"
	"unwind/terms"
)

func mustRead(t *testing.T, term, list string) (*terms.Term, []number.Number) {
	t.Helper()
	read, errno := terms.Read(term, terms.Names{})
	items, isList := lists.Read(list)
	if errno != api.OK || !isList {
		t.Fatalf("%q, %q: %d, %v", term, list, errno, isList)
	}
	return read, items
}

// What is handed in stays as it is, and shares nothing with the answer.
func TestHandedInStays(t *testing.T) {
	for _, text := range []string{"", "n", "a", "v", "q", "u", "+1", "*2", "=7", "r", "<1", "s", "z", "p", "m", "o", "t2", "d0", "d1", "#0.1", "()^2", "(s)^-1", "(t3)^0", "[:]", "[t2:n]", "[r:]", "[#2.0:r]", "[t0:=7]", "[v:+1]", "[s:]", "([t2:s])^-1", "[d1:[t1:q]]"} {
		term, items := mustRead(t, text, "4,9,2")
		left, _, errno := Run(term, items, 100)
		if errno != api.OK {
			t.Fatalf("%q: %d", text, errno)
		}
		if now := lists.Text(items); now != "4,9,2" {
			t.Errorf("%q has changed the list into %q", text, now)
		}
		told := lists.Text(left)
		for at := range items {
			items[at] = number.Number{}
		}
		if lists.Text(left) != told {
			t.Errorf("%q answers a list that shares memory with the one handed in", text)
		}
		if now := term.Text(); now != text {
			t.Errorf("%q is now %q", text, now)
		}
	}
}

// Beside an error stands nothing else.
func TestNothingBesideAnError(t *testing.T) {
	for _, c := range []struct {
		term, list string
		want       api.Errno
	}{{"nnnnn", "1", api.ErrFuel}, {"nt2", "1", api.ErrLength}, {"nd2", "1", api.ErrLength}, {"n#1", "1", api.ErrLength}, {"+1v", "1,-1", api.ErrDomain}, {"no", "0,1", api.ErrDomain}, {"nm", "0,1", api.ErrDomain}, {"qq", "1000", api.ErrLimit}, {"n(a)^-1", "1", api.ErrBack}, {"n[q:n]", "1", api.ErrBack}, {"[t2:n]", "1", api.ErrLength}, {"[t1:t0]", "1,2", api.ErrLength}, {"n[t1:v]", "0,1", api.ErrDomain}, {"[v:n]", "0,1", api.ErrDomain}, {"[v:=0]", "1", api.ErrDomain}, {"[t1:*2]", "1000000000,1", api.ErrLimit}, {"n[v:n]", "1", api.ErrFuel}} {
		term, items := mustRead(t, c.term, c.list)
		left, steps, errno := Run(term, items, 4)
		if left != nil || steps != 0 || errno != c.want {
			t.Errorf("%q on %q: %v, %d, %d", c.term, c.list, left, steps, errno)
		}
	}
}

// A way back that there is not is refused, whoever asks for it.
func TestNoWayBack(t *testing.T) {
	term, items := mustRead(t, "a", "1")
	r := run{items: items, left: 10}
	if errno := r.back(term); errno != api.ErrBack {
		t.Errorf("the way back of a: %d", errno)
	}
	if errno := r.under(term, term, true); errno != api.ErrBack {
		t.Errorf("under a: %d", errno)
	}
}

// Whatever part is asked for, no list is read beyond its ends.
func TestBeyondTheEnds(t *testing.T) {
	_, items := mustRead(t, "", "1")
	for _, part := range []terms.Part{{Letter: 't', Count: -1}, {Letter: 't', Count: 2}, {Letter: 'd', Count: -1}, {Letter: 'd', Count: 2}, {Letter: '#', Places: []int{-1}}, {Letter: '#', Places: []int{0, 1}}} {
		if made, errno := makeOf(items, part); made != nil || errno != api.ErrLength {
			t.Errorf("%v: %v, %d", part, made, errno)
		}
	}
}

// Whatever places are asked for, nothing is laid beyond the ends of a list.
func TestLaidBeyondTheEnds(t *testing.T) {
	_, all := mustRead(t, "", "1,2")
	for _, c := range []struct {
		places []int
		items  string
	}{{[]int{2}, "5"}, {[]int{-1}, "5"}, {[]int{0, 2}, "5,6"}, {[]int{0}, ""}, {[]int{0}, "5,6"}, {nil, "5"}} {
		_, items := mustRead(t, "", c.items)
		if made, errno := layInto(all, c.places, items); made != nil || errno != api.ErrLength {
			t.Errorf("%v: %v, %d", c.places, made, errno)
		}
		if now := lists.Text(all); now != "1,2" {
			t.Errorf("%v has changed the list into %q", c.places, now)
		}
	}
	_, halves := mustRead(t, "", "0,1/2")
	if places, errno := readPlaces(halves); places != nil || errno != api.ErrLength {
		t.Errorf("a half is a place: %v, %d", places, errno)
	}
}
