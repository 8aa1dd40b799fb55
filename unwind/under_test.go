package unwind

import (
	"math/rand/v2"
	"slices"
	"strconv"
	"strings"
	"testing"

	"unwind/api"
)

// The examples of the document that speak of unders, word for word.
func TestUnderExamples(t *testing.T) {
	checkRuns(t, New(), []course{
		{"[t2:*10]", "1,2,3", leaves("10,20,3", 3)}, {"[rt1:=7]", "1,2,3", leaves("1,2,7", 4)}, {"[#2.0:<1]", "1,2,3", leaves("3,2,1", 3)}, {"[v:+1]", "1,2", leaves("1/2,2/3", 4)}, {"([s:*2])^-1", "2,6", leaves("1,3", 6)},
		{"[q:n]", "1", ends(api.ErrBack, 1)}, {"[q:n]", "", ends(api.ErrBack, 1)}, {"[q:n]", twelve, ends(api.ErrBack, 1)}, {"[t1:t0]", "1,2", ends(api.ErrLength, 3)},
	})
}

// split cuts a list into the texts of its items.
func split(list string) []string {
	if list == "" {
		return nil
	}
	return strings.Split(list, ",")
}

// laid writes a list with these items at these places, in their order.
func laid(list string, places []int, items []string) string {
	all := split(list)
	for at, place := range places {
		all[place] = items[at]
	}
	return strings.Join(all, ",")
}

// checkPicker checks a picker that picks these places of a list, in so many
// steps: by itself, over terms that tell the order of the places, there and
// back, and over terms of which not as many items may come out.
func checkPicker(t *testing.T, x *Session, picker, list string, places []int, steps int) {
	t.Helper()
	all := split(list)
	var picked, rising []string
	for at, place := range places {
		picked = append(picked, all[place])
		rising = append(rising, strconv.Itoa(5*at+5))
	}
	checkOutcome(t, x, picker, list, leaves(strings.Join(picked, ","), steps))
	slices.Reverse(picked)
	turned := laid(list, places, picked)
	checkOutcome(t, x, "["+picker+":=5s]", list, leaves(laid(list, places, rising), steps+3))
	checkOutcome(t, x, "["+picker+":r]", list, leaves(turned, steps+2))
	checkOutcome(t, x, "(["+picker+":r])^-1", list, leaves(turned, steps+4))
	checkOutcome(t, x, "["+picker+":]", list, leaves(list, steps+1))
	for length, fitting := range []string{"t0", "#0", "#0.1"} {
		want := ends(api.ErrLength, steps+2)
		if length == len(places) {
			want = leaves(list, steps+2)
		}
		checkOutcome(t, x, "["+picker+":"+fitting+"]", list, want)
	}
}

// span tells the whole numbers from one up to another, without that.
func span(from, to int) []int {
	var all []int
	for at := from; at < to; at++ {
		all = append(all, at)
	}
	return all
}

// Pickers of every part that a picker may have, on ordinary lists, on the
// empty list and on one of MaxItems items.
func TestEachPicker(t *testing.T) {
	x := New()
	define(t, x, "A", "rt2", api.OK)
	define(t, x, "B", "A<1", api.OK)
	define(t, x, "C", "(r<1)^-1", api.OK)
	for _, c := range []struct {
		picker, list string
		places       []int
		steps        int
	}{
		{"", "", nil, 0}, {"", "4", span(0, 1), 0}, {"", "4,-1/2,0", span(0, 3), 0}, {"", twelve, span(0, 12), 0},
		{"r", "", nil, 1}, {"r", "4,-1/2,0", []int{2, 1, 0}, 1}, {"r", twelve, []int{11, 10, 9, 8, 7, 6, 5, 4, 3, 2, 1, 0}, 1}, {"rr", "4,5", []int{0, 1}, 2},
		{"<1", "", nil, 1}, {"<1", "4", []int{0}, 1}, {"<1", "4,-1/2,0", []int{1, 2, 0}, 1}, {"<-1", "4,-1/2,0", []int{2, 0, 1}, 1}, {"<99", twelve, []int{3, 4, 5, 6, 7, 8, 9, 10, 11, 0, 1, 2}, 1}, {"<-99", twelve, []int{9, 10, 11, 0, 1, 2, 3, 4, 5, 6, 7, 8}, 1},
		{"t0", "", nil, 1}, {"t0", "4,5", nil, 1}, {"t2", "4,-1/2,0", []int{0, 1}, 1}, {"t12", twelve, span(0, 12), 1}, {"t0", twelve, nil, 1}, {"t11", twelve, span(0, 11), 1},
		{"d0", "", nil, 1}, {"d0", "4,5", []int{0, 1}, 1}, {"d1", "4,-1/2,0", []int{1, 2}, 1}, {"d12", twelve, nil, 1}, {"d0", twelve, span(0, 12), 1}, {"d11", twelve, []int{11}, 1},
		{"#0", "4", []int{0}, 1}, {"#2.0", "4,-1/2,0", []int{2, 0}, 1}, {"#11", twelve, []int{11}, 1}, {"#11.0.5", twelve, []int{11, 0, 5}, 1}, {"#1.0.3.2.5.4.7.6.9.8.11.10", twelve, []int{1, 0, 3, 2, 5, 4, 7, 6, 9, 8, 11, 10}, 1},
		{"rt1", "4,5,6", []int{2}, 2}, {"t1r", "4,5,6", []int{0}, 2}, {"d1t1", "4,5,6", []int{1}, 2}, {"#2.0.1#1.2", "4,5,6", []int{0, 1}, 2}, {"<1d1r", "4,5,6", []int{0, 2}, 3}, {"rd10<1", twelve, []int{0, 1}, 3}, {"rt0", "", nil, 2},
		{"()^0", "", nil, 1}, {"()^999", "4,5", []int{0, 1}, 1000}, {"()^-2", "4,5", []int{0, 1}, 3}, {"(d1)^2", "4,5,6,7", []int{2, 3}, 5}, {"(d2)^6", twelve, nil, 13}, {"(t1)^0", "", nil, 1}, {"(t1)^0", "4,5", []int{0, 1}, 1}, {"(t5)^0#1", "4,5", []int{1}, 2},
		{"(r)^-1", "4,5,6", []int{2, 1, 0}, 3}, {"(<1)^-2", "4,5,6", []int{1, 2, 0}, 5}, {"(<1)^-1", twelve, []int{11, 0, 1, 2, 3, 4, 5, 6, 7, 8, 9, 10}, 3}, {"(r<1)^-1", "4,5,6", []int{1, 0, 2}, 4}, {"r<1", "4,5,6", []int{1, 0, 2}, 2}, {"((<1)^-1)^-1", "4,5,6", []int{1, 2, 0}, 5}, {"((t1)^0)^-1", "4,5", []int{0, 1}, 3}, {"(r)^-1t1", "4,5", []int{1}, 4}, {"((d1)^1t1)^1", "4,5,6", []int{1}, 6},
		{"A", "4,5,6", []int{2, 1}, 3}, {"B", "4,5,6", []int{1, 2}, 5}, {"C", "4,5,6", []int{1, 0, 2}, 5}, {"(C)^-1", "4,5,6", []int{1, 0, 2}, 7}, {"(A)^1", twelve, []int{11, 10}, 5}, {"AA", "4,5,6", []int{1, 2}, 6}, {"(A)^0", "", nil, 1}, {"Ct0", "", nil, 6},
	} {
		checkPicker(t, x, c.picker, c.list, c.places, c.steps)
	}
}

// Each count of a picker, up to its bounds, on a list of each length.
func TestPickersOfEachLength(t *testing.T) {
	x := New()
	for length := range api.MaxItems + 1 {
		list := count(100, 99+length)
		for k := range api.MaxItems + 1 {
			text := strconv.Itoa(k)
			if k > length {
				checkOutcome(t, x, "[t"+text+":v]", list, ends(api.ErrLength, 2))
				checkOutcome(t, x, "[d"+text+":v]", list, ends(api.ErrLength, 2))
				continue
			}
			checkPicker(t, x, "t"+text, list, span(0, k), 1)
			checkPicker(t, x, "d"+text, list, span(k, length), 1)
		}
		for place := range api.MaxItems {
			text := strconv.Itoa(place)
			if place >= length {
				checkOutcome(t, x, "[#"+text+":v]", list, ends(api.ErrLength, 2))
				continue
			}
			checkPicker(t, x, "#"+text, list, []int{place}, 1)
		}
		for _, k := range []int{-99, -13, -12, -5, -1, 0, 1, 5, 12, 13, 99} {
			places := span(0, length)
			for at := range places {
				// 27720 is a multiple of every length up to MaxItems.
				places[at] = (at + k + 27720) % length
			}
			checkPicker(t, x, "<"+strconv.Itoa(k), list, places, 1)
		}
	}
}

// Only what is picked is worked at: the rest may be such that the part would
// fail.
func TestOthersStay(t *testing.T) {
	checkRuns(t, New(), []course{
		{"[d1:v]", "0,2", leaves("0,1/2", 3)}, {"[t1:v]", "0,2", ends(api.ErrDomain, 3)}, {"[#1:+1]", "1000000000,5,1000000000", leaves("1000000000,6,1000000000", 3)}, {"[#0:+1]", "1000000000,5", ends(api.ErrLimit, 3)}, {"[rt1:w]", "-1,2,9", leaves("-1,2,3", 4)}, {"[t2:m]", "5,0,7,0", leaves("5,0,7,0", 3)}, {"[t3:m]", "5,0,7,0", ends(api.ErrDomain, 3)}, {"[#3.1:s]", "1,2,3,4", leaves("1,6,3,4", 3)}, {"[#2.0.1:z]", "1,5,9", leaves("-8,4,9", 3)}, {"[t0:v]", "0,0", leaves("0,0", 3)}, {"[t0:v]", "", leaves("", 3)},
		{"[t1:n][t1:n]", "1,2", leaves("1,2", 6)}, {"[t1:n]n", "1,2", leaves("1,-2", 4)}, {"n[d1:a]", "1,2", leaves("-1,2", 4)}, {"[t1:=3]t1", "1,2", leaves("3", 4)}, {"t1[t1:=3]", "1,2", leaves("3", 4)}, {"t1[t2:=3]", "1,2", ends(api.ErrLength, 3)},
	})
}

// Terms that are no pickers, plain, with a way back: run, then g, then back.
func TestUnderOthers(t *testing.T) {
	x := New()
	define(t, x, "V", "v", api.OK)
	define(t, x, "W", "+1V", api.OK)
	checkRuns(t, x, []course{
		{"[n:+1]", "1,-2", leaves("0,-3", 4)}, {"[v:+1]", "1,-2", leaves("1/2,2", 4)}, {"[w:+1]", "4,9", leaves("9,16", 4)}, {"[u:+5]", "2,0", ends(api.ErrDomain, 4)}, {"[u:+5]", "2", leaves("3", 4)}, {"[+1/2:*2]", "1,-1/2", leaves("5/2,-1/2", 4)}, {"[*2/3:+1]", "0,3", leaves("3/2,9/2", 4)}, {"[s:*2]", "1,3", leaves("2,6", 4)}, {"[s:r]", "1,2,3", leaves("6,-3,-2", 4)}, {"[z:n]", "1,3", leaves("-1,-3", 4)}, {"[z:=1]", "4,4,4", leaves("1,2,3", 4)}, {"[m:*2]", "3,5", leaves("6,5", 4)}, {"[o:=2]", "3,5", leaves("2,4", 4)}, {"[m:=7]", "3,5", leaves("7,1", 4)},
		{"[n:a]", "1,-2", leaves("-1,-2", 4)}, {"[nr:s]", "1,2,3", leaves("6,5,3", 6)}, {"[+1v:+1]", "1,2", leaves("-1/3,-1/4", 6)}, {"[v+1:+1]", "1,2", leaves("1/2,2/3", 6)}, {"[s*2:+2]", "1,2", leaves("2,2", 6)}, {"[<1s:[t1:n]]", "1,2,3", leaves("1,-2,7", 8)},
		{"[(n)^1:+1]", "3", leaves("2", 8)}, {"[(+1)^2:*2]", "3", leaves("8", 12)}, {"[(*2)^-1:+1]", "3", leaves("5", 8)}, {"[(u)^-1:+1]", "9", leaves("16", 8)}, {"[(a)^0:n]", "1", leaves("-1", 4)}, {"[(t1)^0n:+1]", "1,2", leaves("0,1", 6)}, {"[()^1n:+1]", "1", leaves("0", 8)}, {"[(*0)^0:v]", "2", leaves("1/2", 4)}, {"[(=1)^0:v]", "2", leaves("1/2", 4)}, {"[((a)^0)^-1:v]", "2", leaves("1/2", 8)},
		{"[[r:n]:+1]", "1,2", leaves("0,1", 8)}, {"[[t1:n]s:+3]", "1,2,4", leaves("-2,2,4", 10)}, {"[[v:+1]:n]", "1,2", leaves("-1/3,-2/5", 10)}, {"[[:n]:+1]", "1", leaves("0", 6)}, {"[[t2:]:v]", "4,5", leaves("1/4,1/5", 6)}, {"[[#1:(a)^0]:v]", "4,5", leaves("1/4,1/5", 8)},
		{"[V:+1]", "1", leaves("1/2", 6)}, {"[W:*2]", "1", leaves("0", 10)}, {"[WV:*2]", "1", leaves("3", 14)}, {"[(W)^-1:*3]", "1/2", leaves("1/4", 14)},
		{"[v:+1]", "", leaves("", 4)}, {"[s:*2]", twelve, leaves("2,4,6,8,10,12,14,16,18,20,22,24", 4)}, {"[z:r]", "1,2,3,4,5,6,7,8,9,10,11,24", leaves("13,14,15,16,17,18,19,20,21,22,23,24", 4)},
	})
}

// Terms that can't be undone without loss: nothing is run under them, not even
// what would fail itself.
func TestNothingUnder(t *testing.T) {
	x := New()
	define(t, x, "Q", "q", api.OK)
	define(t, x, "T", "t1", api.OK)
	define(t, x, "N", "n", api.OK)
	for _, over := range []string{
		"q", "p", "a", "=1", "*0", "nt1", "t1n", "vd0", "#0s", "qn", "nq", "rp", "(q)^0", "(p)^0", "(q)^1", "(q)^-1", "(a)^1", "(a)^-1", "(n(q)^0)^0", "(t1n)^1", "n(t1)^-1",
		"[q:n]", "[a:n]", "[t1:q]", "[t1:a]", "[(q)^0:]", "[:(q)^0]", "[v:a]", "[v:t1]", "[T:q]", "[:t1]", "[[:q]:n]", "[s:[r:p]]",
		"Q", "QN", "NQ", "(Q)^0", "(Q)^-1", "[Q:N]", "[T:Q]", "NT", "TN", "(NT)^1", "[:T]",
	} {
		for _, under := range []string{"", "n", "v", "t12", "(a)^-1", "[q:n]", "[t1:n]"} {
			for _, list := range []string{"", "0", "-1,2", twelve} {
				checkOutcome(t, x, "["+over+":"+under+"]", list, ends(api.ErrBack, 1))
			}
		}
		checkRuns(t, x, []course{{"n[" + over + ":n]n", "1", ends(api.ErrBack, 2)}, {"([" + over + ":n])^1", "1", ends(api.ErrBack, 3)}, {"([" + over + ":n])^-1", "1", ends(api.ErrBack, 1)}, {"([" + over + ":n])^0", "1", leaves("1", 1)}, {"[t1:[" + over + ":n]]", "1", ends(api.ErrBack, 3)}})
	}
}

// Terms that change the number of items: under a picker as many must come out
// in the end, under others not.
func TestLengthsUnder(t *testing.T) {
	short := func(step int) outcome { return ends(api.ErrLength, step) }
	checkRuns(t, New(), []course{
		{"[t2:t1]", "1,2", short(3)}, {"[t1:t0]", "1,2", short(3)}, {"[:t1]", "1,2", short(2)}, {"[r:d1]", "1,2", short(3)}, {"[:d0]", "1,2", leaves("1,2", 2)}, {"[:t2]", "1,2", leaves("1,2", 2)}, {"[r:#0.1]", "1,2", leaves("1,2", 3)}, {"[:#1.0]", "1,2", leaves("2,1", 2)}, {"[:#1]", "1,2", short(2)}, {"[t3:#1.2.0]", "1,2,3,4", leaves("2,3,1,4", 3)}, {"[t3:#1.2]", "1,2,3,4", short(3)}, {"[d12:t0]", twelve, leaves(twelve, 3)}, {"[d11:t0]", twelve, short(3)}, {"[t12:t11]", twelve, short(3)}, {"[t2:(d1)^0]", "1,2", leaves("1,2", 3)}, {"[t2:(d1)^1]", "1,2", short(5)}, {"[t2:(d1)^2]", "1,2", short(7)}, {"[t0:(d1)^1]", "1,2", short(5)},
		{"[t2:t1n]", "1,2", short(4)}, {"[t2:t1v]", "0,2", ends(api.ErrDomain, 4)}, {"[t2:t0v]", "0,2", short(4)}, {"[t2:vt0]", "0,2", ends(api.ErrDomain, 3)}, {"[t2:t1]v", "0,2", short(3)}, {"[t2:t3]", "1,2,3", short(3)}, {"[t2:t1(a)^-1]", "1,2", ends(api.ErrBack, 4)}, {"[t2:t1[t2:n]]", "1,2", short(5)}, {"[t2:t1[t1:n]]", "1,2", short(6)}, {"[t2:[t1:t0]]", "1,2", short(5)},
		{"[v:t1]", "4,5", leaves("4", 4)}, {"[s:t1]", "1,2", leaves("1", 4)}, {"[s:d1]", "1,2,3", leaves("3,3", 4)}, {"[n:t0]", "1,2", leaves("", 4)}, {"[n:t3]", "1,2", short(3)}, {"[z:#2]", "1,2,4", leaves("2", 4)}, {"[[t2:n]+1:t1]", "1,2,3", short(9)}, {"[[t1:n]+1:t1]", "1,2,3", leaves("1", 10)}, {"[[d1:n]:t0]", "5,6", short(7)}, {"[t2:[n:t1]]", "1,2", short(6)}, {"[n:[n:t1]]", "1,2", leaves("1", 7)},
	})
}

// Empty terms, over and under.
func TestEmptyUnders(t *testing.T) {
	x := New()
	define(t, x, "E", "", api.OK)
	for _, list := range []string{"", "0", "4,-1/2,0", twelve} {
		checkRuns(t, x, []course{{"[:]", list, leaves(list, 1)}, {"[:][:]", list, leaves(list, 2)}, {"[[:]:]", list, leaves(list, 3)}, {"[:[:]]", list, leaves(list, 2)}, {"[:[:[:]]]", list, leaves(list, 3)}, {"[r:]", list, leaves(list, 2)}, {"[n:]", list, leaves(list, 3)}, {"[s:]", list, leaves(list, 3)}, {"[t0:]", list, leaves(list, 2)}, {"[E:]", list, leaves(list, 2)}, {"[:E]", list, leaves(list, 2)}, {"[E:E]", list, leaves(list, 3)}, {"[()^0:()^0]", list, leaves(list, 3)}, {"([:])^0", list, leaves(list, 1)}, {"([:])^2", list, leaves(list, 5)}, {"([:])^-2", list, leaves(list, 5)}, {"([:])^-999", list, leaves(list, 1999)}})
	}
	checkRuns(t, x, []course{
		{"[:n]", "1,2", leaves("-1,-2", 2)}, {"[E:n]", "1,2", leaves("-1,-2", 3)}, {"[v:]", "0", ends(api.ErrDomain, 2)}, {"[t1:]", "", ends(api.ErrLength, 2)}, {"[:v]", "0", ends(api.ErrDomain, 2)}, {"[+1000000000:]", "1", ends(api.ErrLimit, 2)},
		// Unders are no pickers, even where nothing stands in them: there, g, back.
		{"[[:]:n]", "1", leaves("-1", 4)}, {"[[:]:t0]", "1", leaves("", 4)},
		{strings.Repeat("[:", 40) + strings.Repeat("]", 40), "5", leaves("5", 40)}, {strings.Repeat("[:", 39) + "n" + strings.Repeat("]", 39), "5", leaves("-5", 40)},
	})
}

// The first thing that fails tells the error.
func TestOrderOfUnderErrors(t *testing.T) {
	x := New()
	checkRuns(t, x, []course{
		{"[q:v]", "0", ends(api.ErrBack, 1)}, {"[vq:n]", "0", ends(api.ErrBack, 1)}, {"[t5n:n]", "0", ends(api.ErrBack, 1)}, {"v[q:n]", "0", ends(api.ErrDomain, 1)}, {"[q:n]v", "0", ends(api.ErrBack, 1)},
		{"[t2:v]", "0", ends(api.ErrLength, 2)}, {"[t2:(a)^-1]", "0", ends(api.ErrLength, 2)}, {"[(t1)^-1:v]", "0", ends(api.ErrBack, 2)}, {"[t2(t1)^-1:v]", "0", ends(api.ErrLength, 2)}, {"[(t1)^-1t2:v]", "0", ends(api.ErrBack, 2)}, {"[(t1)^-1:v]", "", ends(api.ErrBack, 2)}, {"[d0(rt1)^-1:v]", "0", ends(api.ErrBack, 3)}, {"[(d1)^3:v]", "0,0", ends(api.ErrLength, 8)}, {"[(#0)^-999:v]", "0", ends(api.ErrBack, 2)}, {"[((t1)^-1)^0:n]", "1", leaves("-1", 3)}, {"[((t1)^-1)^1:n]", "1", ends(api.ErrBack, 4)}, {"[((t1)^-1)^-1:n]", "1", ends(api.ErrBack, 2)},
		{"[v:t5]", "0", ends(api.ErrDomain, 2)}, {"[v:(a)^-1]", "0", ends(api.ErrDomain, 2)}, {"[v:(a)^-1]", "1", ends(api.ErrBack, 3)}, {"[*2:v]", "1000000000", ends(api.ErrLimit, 2)}, {"[*2:v]", "0", ends(api.ErrDomain, 3)}, {"[v:=0]", "1", ends(api.ErrDomain, 4)}, {"[w:n]", "4", ends(api.ErrDomain, 4)}, {"[w:n]", "0", leaves("0", 4)}, {"[w:n]", "2", ends(api.ErrDomain, 2)}, {"[w:q]", "1000000", ends(api.ErrLimit, 4)}, {"[w:qq]", "1000000", ends(api.ErrLimit, 4)}, {"[o:=0]", "3,5,7", ends(api.ErrDomain, 4)}, {"[o:=0]", "3", leaves("0", 4)}, {"[*1/2:=1000000000]", "1", ends(api.ErrLimit, 4)}, {"[w+1:=0]", "4", ends(api.ErrDomain, 6)}, {"[n:v]v", "0", ends(api.ErrDomain, 3)}, {"[n:q]t5", "1000000", ends(api.ErrLimit, 3)},
		{"[t1:[q:v]]", "0", ends(api.ErrBack, 3)}, {"[t1:v[q:v]]", "0", ends(api.ErrDomain, 3)}, {"[t1:[t2:v]]", "0,1", ends(api.ErrLength, 4)}, {"[[t2:n]:v]", "0", ends(api.ErrLength, 3)},
	})
	for _, c := range []struct {
		term, list string
		fuel       int
		want       api.Errno
	}{
		{"[q:n", "x", -1, api.ErrTerm}, {"[q]", "x", -1, api.ErrTerm}, {"[q:n:n]", "1", 0, api.ErrTerm}, {"[q:n)", "1", 5, api.ErrTerm}, {"q:n", "1", 5, api.ErrTerm}, {"[:", "1", 5, api.ErrTerm}, {"[Z:n]", "x", -1, api.ErrUnknown}, {"[q:Z]", "1", 0, api.ErrUnknown}, {"[t0:Z]", "", 5, api.ErrUnknown}, {"[q:n]", "x", -1, api.ErrList}, {"[t1:n]", same("1", 13), 0, api.ErrList}, {"[q:n]", "1", -1, api.ErrArg}, {"[:]", "1", api.MaxFuel + 1, api.ErrArg}, {"[q:n]", "1", 0, api.ErrFuel}, {"[q:n]", "1", 1, api.ErrBack},
		{"[" + strings.Repeat("n", api.MaxTerm-2) + ":]", "1", 5, api.ErrLong}, {strings.Repeat("[:", 1500000), "1", 5, api.ErrLong}, {strings.Repeat("[", api.MaxTerm), "1", 5, api.ErrTerm},
	} {
		checkRan(t, x, c.term, c.list, c.fuel, failed(c.want))
	}
}

// Unders within unders, with powers and within them.
func TestUndersWithin(t *testing.T) {
	checkRuns(t, New(), []course{
		{"[#1:[r:v]]", "1,2", leaves("1,1/2", 5)}, {"[d1:[d1:n]]", "1,2,3", leaves("1,2,-3", 5)}, {"[r:[t1:n]]", "1,2,3", leaves("1,2,-3", 5)}, {"[t2:[r:[t1:=9]]]", "1,2,3", leaves("1,9,3", 7)}, {"[#2.0:[#1:n]s]", "1,2,3", leaves("2,2,3", 6)}, {"[(<1)^-1:[t1:n]]", "1,2,3", leaves("1,2,-3", 7)},
		{"[t2:[v:+1]]", "1,2,0", leaves("1/2,2/3,0", 6)}, {"[v:[t1:+1]]", "1,2", leaves("1/2,2", 6)}, {"[s:[v:+1]]", "1,1", leaves("1/2,1/6", 7)}, {"[s:[r:*2]]", "1,2,4", leaves("2,4,8", 6)}, {"[t2:(+1)^3]", "1,2,3", leaves("4,5,3", 9)}, {"[t2:(s)^-1]", "1,3,6", leaves("1,2,6", 5)}, {"[v:(+1)^-1]", "1/2", leaves("1", 6)},
		{"([t2:*10])^2", "1,2,3", leaves("100,200,3", 9)}, {"([r:s])^3", "1,1,1", leaves("10,4,1", 13)}, {"([t1:n])^999", "1,2", leaves("-1,2", 3997)}, {"([t1:n])^-999", "1,2", leaves("-1,2", 3997)}, {"(([t1:+1])^3)^-2", "6,6", leaves("0,6", 29)}, {"(([t1:+1])^-3)^2", "6,6", leaves("0,6", 29)}, {"(([t1:+1])^-3)^-2", "0,6", leaves("6,6", 29)}, {"[([r:n])^2:+1]", "1", leaves("2", 20)},
	})
}

// Unders run backwards: the term under is, what stands over it is not.
func TestUndersBack(t *testing.T) {
	x := New()
	define(t, x, "A", "+1", api.OK)
	define(t, x, "P", "rt1", api.OK)
	define(t, x, "V", "v", api.OK)
	define(t, x, "U", "[P:A]", api.OK)
	define(t, x, "O", "[V:A*2]", api.OK)
	checkRuns(t, x, []course{
		{"([t2:*10])^-1", "10,20,3", leaves("1,2,3", 5)}, {"([rt1:q])^-1", "1,9", leaves("1,3", 6)}, {"([rt1:q])^-1", "1,8", ends(api.ErrDomain, 6)}, {"([#2.0:<1])^-1", "3,2,1", leaves("1,2,3", 5)}, {"([#2.0.1:<1])^-1", "1,2,3", leaves("3,1,2", 5)}, {"([<1:s])^-1", "6,2,5", leaves("1,2,3", 5)}, {"([t2:s*2r])^-1", "6,2,5", leaves("1,2,5", 7)}, {"([d1:])^-1", "1,2", leaves("1,2", 4)}, {"([t5:n])^-1", "1,2", ends(api.ErrLength, 4)}, {"([(t1)^-1:n])^-1", "1,2", ends(api.ErrBack, 4)}, {"([(r)^-1:s])^-1", "3,2", leaves("1,2", 7)},
		{"([v:+1])^-1", "1/2,2/3", leaves("1,2", 6)}, {"([v:+1])^-2", "1/3,2/5", leaves("1,2", 11)}, {"([s:*2])^-1", "2,6", leaves("1,3", 6)}, {"([s:+1r])^-1", "1,2", leaves("2,-2", 7)}, {"([w:+1])^-1", "1/4,9", ends(api.ErrDomain, 6)}, {"([w:+1])^-1", "4,9", leaves("1,4", 6)}, {"([+1:q])^-1", "8", leaves("2", 6)}, {"([v:+1])^-1", "1", ends(api.ErrDomain, 6)}, {"([v:+1])^-1", "0", ends(api.ErrDomain, 4)},
		{"([t1:a])^-1", "1", ends(api.ErrBack, 1)}, {"([t1:a])^0", "-1", leaves("-1", 1)}, {"([t1:t1])^-1", "1", ends(api.ErrBack, 1)}, {"([v:t1])^-1", "1", ends(api.ErrBack, 1)}, {"([v:*0])^-1", "1", ends(api.ErrBack, 1)}, {"([t1:(q)^-1])^-1", "1", ends(api.ErrBack, 1)}, {"(([t1:q])^-1)^-1", "1", ends(api.ErrBack, 1)}, {"(([t1:q])^-1)^1", "4,4", leaves("2,4", 7)}, {"(([t1:u])^-1)^-1", "2,2", leaves("4,2", 7)}, {"(([t1:u])^-1)^-1", "-2,2", ends(api.ErrDomain, 7)},
		{"([t2:[v:+1]])^-1", "1/2,2/3,0", leaves("1,2,0", 8)}, {"([v:[t1:+1]])^-1", "1/2,2", leaves("1,2", 8)}, {"([t2:(+1)^3])^-1", "4,5,3", leaves("1,2,3", 11)}, {"([t2:(+1)^-3])^-1", "1,2,3", leaves("4,5,3", 11)}, {"([[t1:n]s:+3])^-1", "-2,2,4", leaves("1,2,4", 12)}, {"(n[t1:+1]s)^-1", "0,-2", leaves("1,2", 7)},
		{"[t2:A]", "1,2,3", leaves("2,3,3", 4)}, {"([t2:A])^-1", "2,3,3", leaves("1,2,3", 6)}, {"[t2:(A)^-1]", "2,3,3", leaves("1,2,3", 6)}, {"([t2:AA])^-1", "2,3,3", leaves("0,1,3", 8)}, {"([V:A])^-1", "1/2", leaves("1", 9)}, {"[V:A]", "1", leaves("1/2", 7)}, {"([P:A])^-1", "1,3", leaves("1,2", 8)},
		{"U", "1,2", leaves("1,3", 7)}, {"(U)^-1", "1,3", leaves("1,2", 9)}, {"(U)^-2", "1,3", leaves("1,1", 17)}, {"O", "1", leaves("1/4", 9)}, {"(O)^-1", "1/4", leaves("1", 11)}, {"((O)^-1)^-1", "1", leaves("1/4", 13)}, {"[U:*2]", "1,2", leaves("2,5", 16)}, {"([U:*2])^-1", "2,5", leaves("1,2", 18)}, {"[P:O]", "1,1", leaves("1,1/4", 13)}, {"([P:O])^-1", "1,1/4", leaves("1,1", 15)}, {"[O:U]", "1,1", leaves("1,-5/3", 26)}, {"([O:U])^-1", "1,-5/3", leaves("1,1", 28)},
	})
}

// Names in unders stand for what they stood for when these were defined.
func TestNamesUnder(t *testing.T) {
	x := New()
	define(t, x, "A", "t1", api.OK)
	define(t, x, "B", "+1", api.OK)
	define(t, x, "C", "[A:B]", api.OK)
	define(t, x, "A", "v", api.OK)
	checkRuns(t, x, []course{{"C", "1,2", leaves("2,2", 6)}, {"(C)^-1", "2,2", leaves("1,2", 8)}, {"[A:B]", "1,2", leaves("1/2,2/3", 7)}})
	define(t, x, "B", "*2", api.OK)
	checkRuns(t, x, []course{{"C", "1,2", leaves("2,2", 6)}, {"(C)^-1", "2,2", leaves("1,2", 8)}, {"[A:B]", "1,2", leaves("1/2,1", 7)}, {"([A:B])^-1", "1/2,1", leaves("1,2", 9)}})
	define(t, x, "A", "q", api.OK)
	checkRuns(t, x, []course{{"C", "1,2", leaves("2,2", 6)}, {"[A:B]", "1,2", ends(api.ErrBack, 1)}})
	define(t, x, "D", "[A:B]", api.OK)
	define(t, x, "A", "r", api.OK)
	checkRuns(t, x, []course{{"D", "1,2", ends(api.ErrBack, 2)}, {"(D)^-1", "1,2", ends(api.ErrBack, 1)}, {"[A:B]", "1,2", leaves("2,4", 5)}})
	define(t, x, "C", "[A:C]", api.OK)
	checkRuns(t, x, []course{{"C", "1,2", leaves("1,3", 10)}, {"(C)^-1", "1,3", leaves("1,2", 12)}})
	define(t, x, "A", "[A:s]", api.OK)
	checkRuns(t, x, []course{{"A", "1,2", leaves("3,2", 5)}, {"(A)^-1", "3,2", leaves("1,2", 7)}, {"[A:+1]", "1,2", leaves("1,3", 12)}})
	define(t, x, "A", "[A:A]", api.OK)
	checkRuns(t, x, []course{{"A", "1,2", leaves("3,2", 17)}, {"(A)^-1", "3,2", leaves("1,2", 19)}})
	other := New()
	checkRan(t, other, "[A:B]", "1", 10, failed(api.ErrUnknown))
}

// Names that stand for unders of names, and so on, deeper than fuel lasts and
// with more steps than can be counted.
func TestDeepUnders(t *testing.T) {
	x := New()
	define(t, x, "A", "n", api.OK)
	define(t, x, "B", "r", api.OK)
	define(t, x, "C", "v", api.OK)
	for range 2498 {
		define(t, x, "A", "[:A]", api.OK)
		define(t, x, "B", "B", api.OK)
	}
	for range 60 {
		define(t, x, "C", "[C:C]", api.OK)
	}
	checkRuns(t, x, []course{{"A", "1", leaves("-1", 4998)}, {"(A)^-1", "1", leaves("-1", 5000)}, {"[:A]", "1", leaves("-1", 4999)}, {"[B:s]", "1,2", leaves("3,2", 2502)}, {"([B:s])^-1", "3,2", leaves("1,2", 2504)}})
	for _, term := range []string{"[:[r:A]]", "(nA)^-1", "C", "(C)^-1", "[C:n]", "[t1:C]", "[B:A]", "[A:A]"} {
		checkRan(t, x, term, "1", api.MaxFuel, failed(api.ErrFuel))
	}
	for range 100000 {
		define(t, x, "A", "[:A]", api.OK)
		define(t, x, "B", "[B:]", api.OK)
		define(t, x, "C", "([C:n])^-1", api.OK)
	}
	for _, term := range []string{"A", "(A)^-1", "[A:n]", "B", "(B)^-1", "[t1:B]", "C", "(C)^-1", "[C:C]"} {
		checkRan(t, x, term, "1", api.MaxFuel, failed(api.ErrFuel))
	}
}

// chain runs terms one behind the other, each by itself, up to the first error.
func chain(x *Session, list string, terms ...string) ran {
	all := ran{list: list}
	for _, term := range terms {
		one := apply(x, term, all.list, api.MaxFuel)
		if one.errno != api.OK {
			return one
		}
		all.list, all.steps = one.list, all.steps+one.steps
	}
	return all
}

// pieced puts together what an under must answer out of runs of the terms that
// stand in it.
func pieced(x *Session, over, under, list string) ran {
	facts, _ := x.Facts(over)
	if facts&api.IsPicker == 0 {
		if facts != api.HasBack|api.IsPlain {
			return failed(api.ErrBack)
		}
		all := chain(x, list, over, under, "("+over+")^-1")
		if all.errno == api.OK {
			// A step of its own, and none for a power of over and its turn.
			all.steps += 1 - 2
		}
		return all
	}
	picked := chain(x, count(0, len(split(list))-1), over)
	if picked.errno != api.OK {
		return picked
	}
	var places []int
	for _, text := range split(picked.list) {
		place, _ := strconv.Atoi(text)
		places = append(places, place)
	}
	made := chain(x, list, over, under)
	if made.errno != api.OK {
		return made
	}
	if len(split(made.list)) != len(places) {
		return failed(api.ErrLength)
	}
	return ran{laid(list, places, split(made.list)), 1 + made.steps, api.OK}
}

// An under answers what comes of its terms, run one by one, there and back.
func TestUnderOfItsTerms(t *testing.T) {
	m := maker{rand.New(rand.NewPCG(4, 11))}
	seen := map[api.Errno]int{}
	x := New()
	for _, c := range [][2]string{{"A", "+1s"}, {"B", "[r:+1]"}, {"C", "(v+1)^-1"}, {"P", "rd1"}, {"Q", "(<1)^-1"}} {
		define(t, x, c[0], c[1], api.OK)
	}
	for range 10000 {
		isTame := m.IntN(4) > 0
		over, under, list := m.over(1, isTame), m.runTerm(1, isTame), m.list()
		text := "[" + over + ":" + under + "]"
		// With fuel enough, the runs one by one have it too.
		if got := apply(x, text, list, api.MaxFuel); got.errno != api.ErrFuel {
			seen[got.errno]++
			if want := pieced(x, over, under, list); got != want {
				t.Errorf("P8: %q on %q: %v, of its terms %v", text, list, got, want)
			}
		}
		facts, _ := x.Facts(text)
		got := apply(x, "("+text+")^-1", list, api.MaxFuel)
		if facts&api.HasBack == 0 || got.errno == api.ErrFuel {
			continue
		}
		// The steps for a power and its turn are taken around the under, or
		// within it.
		if want := pieced(x, over, "("+under+")^-1", list); got != want {
			t.Errorf("P8: %q back on %q: %v, of its terms %v", text, list, got, want)
		}
	}
	for _, errno := range []api.Errno{api.OK, api.ErrLength, api.ErrDomain, api.ErrLimit, api.ErrBack} {
		if seen[errno] < 100 {
			t.Errorf("only %d runs answered %d", seen[errno], errno)
		}
	}
}
