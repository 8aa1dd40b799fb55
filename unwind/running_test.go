package unwind

import (
	"math"
	"strconv"
	"strings"
	"testing"

	"unwind/api"
)

// ran is what Apply answers.
type ran struct {
	list  string
	steps int
	errno api.Errno
}

func apply(x *Session, term, list string, fuel int) ran {
	text, steps, errno := x.Apply(term, list, fuel)
	return ran{text, steps, errno}
}

// failed is what Apply answers with an error.
func failed(errno api.Errno) ran { return ran{errno: errno} }

func checkRan(t *testing.T, x *Session, term, list string, fuel int, want ran) {
	t.Helper()
	if got := apply(x, term, list, fuel); got != want {
		t.Errorf("P8: Apply(%.60q, %.60q, %d) = %v, want %v", term, list, fuel, got, want)
	}
}

// outcome is how a run goes that has fuel enough: what is answered, and the
// step in which that is settled.
type outcome struct {
	answer ran
	step   int
}

// leaves is a run that leaves a list.
func leaves(list string, steps int) outcome {
	return outcome{ran{list, steps, api.OK}, steps}
}

// ends is a run that an error ends in this step.
func ends(errno api.Errno, step int) outcome {
	return outcome{failed(errno), step}
}

// checkOutcome checks a run with fuel that just suffices, with more, and with
// less.
func checkOutcome(t *testing.T, x *Session, term, list string, want outcome) {
	t.Helper()
	for _, fuel := range []int{want.step, want.step + 1, api.MaxFuel} {
		if fuel <= api.MaxFuel {
			checkRan(t, x, term, list, fuel, want.answer)
		}
	}
	for _, fuel := range []int{0, want.step / 2, want.step - 1} {
		if fuel >= 0 && fuel < want.step {
			checkRan(t, x, term, list, fuel, failed(api.ErrFuel))
		}
	}
}

// course is a term, a list, and how the run must go.
type course struct {
	term, list string
	want       outcome
}

func checkRuns(t *testing.T, x *Session, runs []course) {
	t.Helper()
	for _, each := range runs {
		checkOutcome(t, x, each.term, each.list, each.want)
	}
}

// twelve is a list of MaxItems items.
const twelve = "1,2,3,4,5,6,7,8,9,10,11,12"

// count writes the whole numbers from one to another, as a list.
func count(from, to int) string {
	var items []string
	for at := from; at <= to; at++ {
		items = append(items, strconv.Itoa(at))
	}
	return strings.Join(items, ",")
}

// same writes a list of so many items that are all alike.
func same(item string, length int) string {
	return strings.TrimSuffix(strings.Repeat(item+",", length), ",")
}

// The examples of the document that speak of runs, word for word.
func TestRunExamples(t *testing.T) {
	x := New()
	checkRuns(t, x, []course{
		{"+1/2*3", "1,-1/2", leaves("9/2,0", 2)}, {"s", "1,2,3", leaves("1,3,6", 1)}, {"(s)^-1", "1,3,6", leaves("1,2,3", 3)}, {"(s)^-2", "1,3,6", leaves("1,1,1", 5)},
		{"(+1)^0", "5", leaves("5", 1)}, {"(+1q)^2", "1", leaves("25", 7)}, {"(+1q)^-2", "25", leaves("1", 7)}, {"o", "2,6,3", leaves("2,3,1/2", 1)},
		{"v", "1,0", ends(api.ErrDomain, 1)}, {"q", "1000000", ends(api.ErrLimit, 1)}, {"(t1)^-1", "1", ends(api.ErrBack, 1)}, {"(t1)^0", "", leaves("", 1)},
		{"m", "2,0,3", ends(api.ErrDomain, 1)}, {"p", "2,0,3", leaves("2,0,0", 1)}, {"(p)^-1", "2,0,0", ends(api.ErrDomain, 3)}, {"(p)^-1", "2,0", leaves("2,0", 3)},
		{"nnn", "1", leaves("-1", 3)}, {"nnn", "", leaves("", 3)}, {"nv", "0", ends(api.ErrDomain, 2)},
	})
	define(t, x, "A", "+1", api.OK)
	define(t, x, "B", "A*2", api.OK)
	define(t, x, "A", "An", api.OK)
	checkRuns(t, x, []course{{"B", "1", leaves("4", 4)}, {"A", "1", leaves("-2", 4)}, {"(A)^-1", "-2", leaves("1", 6)}})
}

// Each part on an ordinary list, on the empty one, and on one of MaxItems.
func TestEachPartRuns(t *testing.T) {
	x := New()
	for _, c := range []struct{ term, list, made, full string }{
		{"n", "-1/2,0,3", "1/2,0,-3", "-1,-2,-3,-4,-5,-6,-7,-8,-9,-10,-11,-12"},
		{"v", "-1/2,3,-5,7/9", "-2,1/3,-1/5,9/7", "1,1/2,1/3,1/4,1/5,1/6,1/7,1/8,1/9,1/10,1/11,1/12"},
		{"a", "-1/2,0,3,-4", "1/2,0,3,4", twelve},
		{"q", "-1/2,0,3", "1/4,0,9", "1,4,9,16,25,36,49,64,81,100,121,144"},
		{"u", "1/2,0,3", "1/4,0,9", "1,4,9,16,25,36,49,64,81,100,121,144"},
		{"+1/2", "-1/2,0,3", "0,1/2,7/2", "3/2,5/2,7/2,9/2,11/2,13/2,15/2,17/2,19/2,21/2,23/2,25/2"},
		{"+0", "-1/2,0,3", "-1/2,0,3", twelve},
		{"+-3", "-1/2,0,3", "-7/2,-3,0", count(-2, 9)},
		{"*2/3", "-1/2,0,3", "-1/3,0,2", "2/3,4/3,2,8/3,10/3,4,14/3,16/3,6,20/3,22/3,8"},
		{"*0", "-1/2,0,3", "0,0,0", same("0", 12)},
		{"*-1", "-1/2,0,3", "1/2,0,-3", "-1,-2,-3,-4,-5,-6,-7,-8,-9,-10,-11,-12"},
		{"=-7/2", "-1/2,0,3", "-7/2,-7/2,-7/2", same("-7/2", 12)},
		{"=0", "5", "0", same("0", 12)},
		{"r", "-1/2,0,3", "3,0,-1/2", "12,11,10,9,8,7,6,5,4,3,2,1"},
		{"<1", "-1/2,0,3", "0,3,-1/2", "2,3,4,5,6,7,8,9,10,11,12,1"},
		{"<-1", "-1/2,0,3", "3,-1/2,0", "12,1,2,3,4,5,6,7,8,9,10,11"},
		{"s", "-1/2,0,3", "-1/2,-1/2,5/2", "1,3,6,10,15,21,28,36,45,55,66,78"},
		{"z", "-1/2,0,3", "-1/2,1/2,3", same("1", 12)},
		{"p", "-1/2,4,3", "-1/2,-2,-6", "1,2,6,24,120,720,5040,40320,362880,3628800,39916800,479001600"},
		{"m", "-1/2,4,3", "-1/2,-2,-6", "1,2,6,24,120,720,5040,40320,362880,3628800,39916800,479001600"},
		{"o", "-1/2,4,3", "-1/2,-8,3/4", "1,2,3/2,4/3,5/4,6/5,7/6,8/7,9/8,10/9,11/10,12/11"},
		{"t0", "-1/2,0,3", "", ""}, {"d0", "-1/2,0,3", "-1/2,0,3", twelve},
	} {
		checkOutcome(t, x, c.term, c.list, leaves(c.made, 1))
		checkOutcome(t, x, c.term, "", leaves("", 1))
		checkOutcome(t, x, c.term, twelve, leaves(c.full, 1))
	}
	checkRuns(t, x, []course{
		{"", "", leaves("", 0)}, {"", "-1/2,0,3", leaves("-1/2,0,3", 0)}, {"", twelve, leaves(twelve, 0)},
		{"w", "1/4,0,9,25/16", leaves("1/2,0,3,5/4", 1)}, {"w", "", leaves("", 1)}, {"w", "1,4,9,16,25,36,49,64,81,100,121,144", leaves(twelve, 1)}, {"w", twelve, ends(api.ErrDomain, 1)},
		{"p", "0,4,0", leaves("0,0,0", 1)}, {"m", "4,1/2,0", leaves("4,2,0", 1)}, {"o", "3,6,0", leaves("3,2,0", 1)}, {"s", "7", leaves("7", 1)}, {"z", "7", leaves("7", 1)}, {"p", "7", leaves("7", 1)}, {"m", "7", leaves("7", 1)}, {"o", "7", leaves("7", 1)},
		{"t2", "-1/2,0,3", leaves("-1/2,0", 1)}, {"t1", "", ends(api.ErrLength, 1)}, {"t12", twelve, leaves(twelve, 1)}, {"t5", twelve, leaves("1,2,3,4,5", 1)},
		{"d2", "-1/2,0,3", leaves("3", 1)}, {"d1", "", ends(api.ErrLength, 1)}, {"d12", twelve, leaves("", 1)}, {"d5", twelve, leaves("6,7,8,9,10,11,12", 1)},
		{"#2.0", "-1/2,0,3", leaves("3,-1/2", 1)}, {"#0", "", ends(api.ErrLength, 1)}, {"#11.0.5", twelve, leaves("12,1,6", 1)}, {"#11.10.9.8.7.6.5.4.3.2.1.0", twelve, leaves("12,11,10,9,8,7,6,5,4,3,2,1", 1)}, {"#1.2.0", "7,8,9", leaves("8,9,7", 1)},
	})
}

// Each count, up to its bounds, on a list of each length.
func TestEachLength(t *testing.T) {
	x := New()
	for length := 0; length <= api.MaxItems; length++ {
		list := count(1, length)
		for k := 0; k <= api.MaxItems; k++ {
			first, behind := leaves(count(1, k), 1), leaves(count(k+1, length), 1)
			if k > length {
				first, behind = ends(api.ErrLength, 1), ends(api.ErrLength, 1)
			}
			checkOutcome(t, x, "t"+strconv.Itoa(k), list, first)
			checkOutcome(t, x, "d"+strconv.Itoa(k), list, behind)
		}
		for place := 0; place < api.MaxItems; place++ {
			alone := leaves(strconv.Itoa(place+1), 1)
			if place >= length {
				alone = ends(api.ErrLength, 1)
			}
			checkOutcome(t, x, "#"+strconv.Itoa(place), list, alone)
		}
		for k := -api.MaxShift; k <= api.MaxShift; k++ {
			front := 0
			if length > 0 {
				// 27720 is a multiple of every length up to MaxItems.
				front = (k + 27720) % length
			}
			moved := strings.Trim(count(front+1, length)+","+count(1, front), ",")
			checkOutcome(t, x, "<"+strconv.Itoa(k), list, leaves(moved, 1))
			checkOutcome(t, x, "(<"+strconv.Itoa(k)+")^-1", moved, leaves(list, 3))
		}
	}
}

// Results at both sides of MaxNumber, above and below the line.
func TestRunLimits(t *testing.T) {
	x := New()
	tooMuch := ends(api.ErrLimit, 1)
	checkRuns(t, x, []course{
		{"n", "1000000000,-1000000000,1/1000000000", leaves("-1000000000,1000000000,-1/1000000000", 1)}, {"a", "-1000000000", leaves("1000000000", 1)}, {"v", "1000000000,-1/1000000000,999999999/1000000000", leaves("1/1000000000,-1000000000,1000000000/999999999", 1)},
		{"q", "31622,-31622,1/31622,31621/31622", leaves("999950884,999950884,1/999950884,999887641/999950884", 1)}, {"q", "31623", tooMuch}, {"q", "-31623", tooMuch}, {"q", "1/31623", tooMuch}, {"q", "1000000000", tooMuch}, {"q", "999999999/1000000000", tooMuch},
		{"u", "31622,1/31622", leaves("999950884,1/999950884", 1)}, {"u", "31623", tooMuch}, {"u", "1/31623", tooMuch}, {"w", "999950884,1/999950884", leaves("31622,1/31622", 1)}, {"w", "1000000000", ends(api.ErrDomain, 1)},
		{"+1", "999999999", leaves("1000000000", 1)}, {"+1", "1000000000", tooMuch}, {"+-1", "-999999999", leaves("-1000000000", 1)}, {"+-1", "-1000000000", tooMuch}, {"+1000000000", "-1000000000,0", leaves("0,1000000000", 1)}, {"+1000000000", "1/2", tooMuch}, {"+1/1000000000", "1/1000000000,-1/1000000000", leaves("1/500000000,0", 1)}, {"+1/1000000000", "1/3", tooMuch},
		{"*2", "500000000,-500000000,1/1000000000", leaves("1000000000,-1000000000,1/500000000", 1)}, {"*2", "500000001", tooMuch}, {"*1/2", "1/500000000", leaves("1/1000000000", 1)}, {"*1/2", "1/500000001", tooMuch}, {"*1000000000", "1000000000", tooMuch}, {"*1000000000", "1/1000000000,-1", leaves("1,-1000000000", 1)}, {"*0", "1000000000,-1/1000000000", leaves("0,0", 1)}, {"*3/2", "1000000000/3", leaves("500000000", 1)},
		{"=1000000000", "0", leaves("1000000000", 1)}, {"=-1/1000000000", "0", leaves("-1/1000000000", 1)},
		{"s", "500000000,500000000", leaves("500000000,1000000000", 1)}, {"s", "500000000,500000001", tooMuch}, {"s", "1000000000,1,-1", tooMuch}, {"s", "-1000000000,2000000/3,-5", tooMuch}, {"s", "1000000000,-1,1", leaves("1000000000,999999999,1000000000", 1)},
		{"z", "-500000000,500000000", leaves("-500000000,1000000000", 1)}, {"z", "-500000000,500000001", tooMuch}, {"z", "500000000,-500000001", tooMuch}, {"z", "1000000000,1000000000", leaves("1000000000,0", 1)}, {"z", "1/1000000000,1/3", tooMuch},
		{"p", "500000000,2,1/1000000000", leaves("500000000,1000000000,1", 1)}, {"p", "500000001,2,0", tooMuch}, {"p", "1/500000001,1/2", tooMuch}, {"m", "500000000,2,0", leaves("500000000,1000000000,0", 1)}, {"m", "500000001,2,0", tooMuch},
		{"o", "1/500000000,2", leaves("1/500000000,1000000000", 1)}, {"o", "1/500000001,2", tooMuch}, {"o", "1000000000,1000000000", leaves("1000000000,1", 1)}, {"o", "2,1/500000000", leaves("2,1/1000000000", 1)}, {"o", "2,1/500000001", tooMuch}, {"o", "-1000000000,0", leaves("-1000000000,0", 1)},
	})
}

// Items are worked at in their order: the first that fails tells the error.
// Only m looks ahead.
func TestFirstItemFails(t *testing.T) {
	x := New()
	checkRuns(t, x, []course{
		{"v", "0", ends(api.ErrDomain, 1)}, {"v", "0,1", ends(api.ErrDomain, 1)}, {"v", "1,2,0", ends(api.ErrDomain, 1)},
		{"w", "1,2", ends(api.ErrDomain, 1)}, {"w", "-1", ends(api.ErrDomain, 1)}, {"w", "4,-4/9", ends(api.ErrDomain, 1)}, {"w", "1/2", ends(api.ErrDomain, 1)}, {"w", "4/3", ends(api.ErrDomain, 1)}, {"w", "3/4", ends(api.ErrDomain, 1)},
		{"u", "-1,1000000", ends(api.ErrDomain, 1)}, {"u", "1000000,-1", ends(api.ErrLimit, 1)}, {"u", "-1000000", ends(api.ErrDomain, 1)}, {"u", "3,-1/2", ends(api.ErrDomain, 1)}, {"u", "0", leaves("0", 1)},
		{"o", "0", leaves("0", 1)}, {"o", "0,0", ends(api.ErrDomain, 1)}, {"o", "0,1", ends(api.ErrDomain, 1)}, {"o", "1,0,1", ends(api.ErrDomain, 1)}, {"o", "1,0,0", ends(api.ErrDomain, 1)}, {"o", "1,0", leaves("1,0", 1)}, {"o", "0,1000000000,1/1000000000", ends(api.ErrDomain, 1)}, {"o", "1000000000,1/1000000000,0,1", ends(api.ErrLimit, 1)},
		{"m", "0", leaves("0", 1)}, {"m", "0,0", ends(api.ErrDomain, 1)}, {"m", "1,0", leaves("1,0", 1)}, {"m", "0,1", ends(api.ErrDomain, 1)}, {"m", "1000000,1000000,0,1", ends(api.ErrDomain, 1)}, {"m", "1000000,1000000,1,0", ends(api.ErrLimit, 1)}, {"p", "1000000,1000000,0,1", ends(api.ErrLimit, 1)}, {"p", "0,1000000,1000000", leaves("0,0,0", 1)}, {"p", "0,0", leaves("0,0", 1)},
		{"+1", "1000000000,-1", ends(api.ErrLimit, 1)}, {"#0.5.1", "1,2", ends(api.ErrLength, 1)}, {"#5.0", "1,2", ends(api.ErrLength, 1)},
	})
}

// Parts run one behind the other, and the first error ends everything.
func TestPartsInOrder(t *testing.T) {
	x := New()
	checkRuns(t, x, []course{
		{"+1*2", "1", leaves("4", 2)}, {"*2+1", "1", leaves("3", 2)}, {"rt1n+5", "1,2,3", leaves("2", 4)}, {"sr", "1,2,3", leaves("6,3,1", 2)}, {"rs", "1,2,3", leaves("3,5,6", 2)}, {"sz", "5,-7/2,0", leaves("5,-7/2,0", 2)}, {"#2.0.1#1.2", "7,8,9", leaves("7,8", 2)}, {"t0=7s", "1,2", leaves("", 3)},
		{"d1d1d1d1", "1,2,3", ends(api.ErrLength, 4)}, {"vt1", "0", ends(api.ErrDomain, 1)}, {"t2v", "0", ends(api.ErrLength, 1)}, {"qv", "0,1000000", ends(api.ErrLimit, 1)}, {"vq", "0,1000000", ends(api.ErrDomain, 1)}, {"(a)^-1v", "0", ends(api.ErrBack, 1)}, {"v(a)^-1", "0", ends(api.ErrDomain, 1)}, {"n(a)^-1", "0", ends(api.ErrBack, 2)}, {"+1v+-1", "-1/2,1", leaves("1,-1/2", 3)},
		{strings.Repeat("n", api.MaxTerm), "1", leaves("1", api.MaxTerm)}, {strings.Repeat("n", api.MaxTerm-1), "1", leaves("-1", api.MaxTerm-1)},
	})
}

// Powers: of 0, above and below, within one another, up to MaxTurns.
func TestRunPowers(t *testing.T) {
	x := New()
	checkRuns(t, x, []course{
		{"()^0", "", leaves("", 1)}, {"()^1", "7", leaves("7", 2)}, {"()^-1", "7", leaves("7", 2)}, {"()^999", "7", leaves("7", 1000)}, {"()^-999", "7", leaves("7", 1000)},
		{"(+1)^1", "5", leaves("6", 3)}, {"(+1)^3", "5", leaves("8", 7)}, {"(+1)^-3", "5", leaves("2", 7)}, {"(+1)^999", "0", leaves("999", 1999)}, {"(+1)^-999", "0", leaves("-999", 1999)}, {"(nn)^5", "1", leaves("1", 16)},
		{"((+1)^2)^3", "0", leaves("6", 19)}, {"((+1)^-2)^-3", "0", leaves("6", 19)}, {"((+1)^2)^-3", "0", leaves("-6", 19)}, {"((+1)^-2)^3", "0", leaves("-6", 19)}, {"(((+1)^-1)^-1)^-1", "0", leaves("-1", 7)}, {"((+1)^0)^-3", "4", leaves("4", 7)}, {"((+1)^3)^0", "4", leaves("4", 1)},
		{"(+1*2)^2", "1", leaves("10", 7)}, {"(+1*2)^-2", "10", leaves("1", 7)}, {"(d1)^2", "1,2", leaves("", 5)}, {"(d1)^3", "1,2", ends(api.ErrLength, 7)}, {"(q)^3", "10", leaves("100000000", 7)}, {"(q)^4", "10", ends(api.ErrLimit, 9)}, {"(q)^-3", "100000000", leaves("10", 7)}, {"(q)^-4", "100000000", ends(api.ErrDomain, 9)},
		{"(a)^0", "-1", leaves("-1", 1)}, {"(a)^-1", "", ends(api.ErrBack, 1)}, {"(=1)^-1", "1", ends(api.ErrBack, 1)}, {"(*0)^-1", "0", ends(api.ErrBack, 1)}, {"(t1)^-1", "1", ends(api.ErrBack, 1)}, {"(d0)^-1", "1", ends(api.ErrBack, 1)}, {"(#0)^-1", "1", ends(api.ErrBack, 1)}, {"(na)^-999", "1", ends(api.ErrBack, 1)}, {"(an)^-1", "1", ends(api.ErrBack, 1)}, {"(t1)^0", "1,2", leaves("1,2", 1)}, {"(t5)^0", "1,2", leaves("1,2", 1)},
		{"((a)^0)^-1", "-1", leaves("-1", 3)}, {"((a)^1)^-1", "-1", ends(api.ErrBack, 1)}, {"((a)^-1)^-1", "-1", ends(api.ErrBack, 1)}, {"((a)^-1)^0", "-1", leaves("-1", 1)}, {"((a)^-1)^1", "-1", ends(api.ErrBack, 3)}, {"(n(a)^-1)^2", "1", ends(api.ErrBack, 4)}, {"(n(a)^-1)^-2", "1", ends(api.ErrBack, 1)},
		{"((q)^-1)^1", "4", leaves("2", 5)}, {"((q)^-1)^-1", "2", ends(api.ErrBack, 1)}, {"((q)^2)^-1", "16", leaves("2", 7)}, {"((q)^0)^-1", "2", leaves("2", 3)}, {"((p)^-1)^-1", "2", ends(api.ErrBack, 1)}, {"((u)^-1)^-1", "2", leaves("4", 5)}, {"((u)^-1)^-1", "-2", ends(api.ErrDomain, 5)}, {"((m)^-1)^-1", "2,3", leaves("2,6", 5)}, {"((m)^-1)^-1", "0,3", ends(api.ErrDomain, 5)},
	})
}

// The way back of each part.
func TestRunBack(t *testing.T) {
	x := New()
	checkRuns(t, x, []course{
		{"(n)^-1", "1,-2", leaves("-1,2", 3)}, {"(v)^-1", "2,-1/3", leaves("1/2,-3", 3)}, {"(v)^-1", "2,0", ends(api.ErrDomain, 3)},
		{"(q)^-1", "9,1/4,0", leaves("3,1/2,0", 3)}, {"(q)^-1", "9,2", ends(api.ErrDomain, 3)}, {"(q)^-1", "-9", ends(api.ErrDomain, 3)}, {"(w)^-1", "3,1/2,0", leaves("9,1/4,0", 3)}, {"(w)^-1", "3,-1/2", ends(api.ErrDomain, 3)}, {"(w)^-1", "1000000,-1", ends(api.ErrLimit, 3)}, {"(u)^-1", "9,1/4", leaves("3,1/2", 3)}, {"(u)^-1", "8", ends(api.ErrDomain, 3)},
		{"(+7/2)^-1", "3", leaves("-1/2", 3)}, {"(+1000000000)^-1", "0,-1", ends(api.ErrLimit, 3)}, {"(*2/3)^-1", "2,-1", leaves("3,-3/2", 3)}, {"(*1000000000)^-1", "1/2", ends(api.ErrLimit, 3)},
		{"(r)^-1", "1,2,3", leaves("3,2,1", 3)}, {"(<2)^-1", "1,2,3", leaves("2,3,1", 3)}, {"(<-2)^-1", "1,2,3", leaves("3,1,2", 3)}, {"(<99)^-1", "1,2,3,4", leaves("2,3,4,1", 3)},
		{"(s)^-1", "5,-7/2,0", leaves("5,-17/2,7/2", 3)}, {"(z)^-1", "5,-17/2,7/2", leaves("5,-7/2,0", 3)}, {"(z)^-1", "1000000000,1,-1", ends(api.ErrLimit, 3)}, {"(p)^-1", "1/2,2,-6", leaves("1/2,4,-3", 3)}, {"(p)^-1", "0,0", ends(api.ErrDomain, 3)}, {"(m)^-1", "2,6,0", leaves("2,3,0", 3)}, {"(m)^-1", "2,0,0", ends(api.ErrDomain, 3)}, {"(o)^-1", "2,3,1/2", leaves("2,6,3", 3)}, {"(o)^-1", "2,0,3", ends(api.ErrDomain, 3)}, {"(o)^-1", "2,0", leaves("2,0", 3)},
		{"(nv)^-1", "2", leaves("-1/2", 4)}, {"(+1v)^-1", "2", leaves("-1/2", 4)}, {"(vn+1)^-1", "1", ends(api.ErrDomain, 5)}, {"(+1vn)^-1", "0", ends(api.ErrDomain, 4)}, {"(sr)^-1", "6,3,1", leaves("1,2,3", 4)}, {"(r<1)^-1", "3,2,1", leaves("2,3,1", 4)}, {"(n(+1)^2*2)^-1", "6", leaves("-1", 9)}, {"(n(+1)^-2*2)^-1", "6", leaves("-5", 9)},
	})
}

// Names: alone, by way of names, there and back, defined anew.
func TestRunNames(t *testing.T) {
	x := New()
	define(t, x, "A", "+1", api.OK)
	define(t, x, "B", "A*2A", api.OK)
	define(t, x, "C", "(B)^2", api.OK)
	define(t, x, "D", "(B)^-2", api.OK)
	define(t, x, "E", "", api.OK)
	define(t, x, "F", "t1", api.OK)
	define(t, x, "G", "qA", api.OK)
	define(t, x, "H", "vA", api.OK)
	checkRuns(t, x, []course{
		{"A", "1", leaves("2", 2)}, {"AA", "1", leaves("3", 4)}, {"(A)^3", "1", leaves("4", 10)}, {"(A)^-3", "1", leaves("-2", 10)}, {"(AA)^-1", "1", leaves("-1", 6)},
		{"B", "1", leaves("5", 6)}, {"(B)^-1", "5", leaves("1", 8)}, {"C", "1", leaves("13", 16)}, {"(C)^-1", "13", leaves("1", 18)}, {"D", "13", leaves("1", 16)}, {"(D)^-1", "1", leaves("13", 18)}, {"((D)^-1)^-1", "13", leaves("1", 20)},
		{"E", "7", leaves("7", 1)}, {"(E)^-1", "7", leaves("7", 3)}, {"F", "7,8", leaves("7", 2)}, {"F", "", ends(api.ErrLength, 2)}, {"(F)^-1", "7,8", ends(api.ErrBack, 1)}, {"(F)^0", "7,8", leaves("7,8", 1)}, {"(EF)^-1", "7", ends(api.ErrBack, 1)},
		{"G", "-3", leaves("10", 4)}, {"(G)^-1", "10", leaves("3", 6)}, {"(G)^-1", "9", ends(api.ErrDomain, 6)}, {"((G)^-1)^-1", "3", ends(api.ErrBack, 1)}, {"((G)^1)^-1", "10", leaves("3", 8)}, {"H", "0", ends(api.ErrDomain, 2)}, {"(H)^-1", "1", ends(api.ErrDomain, 6)},
	})
	define(t, x, "A", "n", api.OK)
	define(t, x, "E", "EEA", api.OK)
	define(t, x, "B", "BA", api.OK)
	checkRuns(t, x, []course{
		{"A", "1", leaves("-1", 2)}, {"G", "-3", leaves("10", 4)}, {"C", "1", leaves("13", 16)}, {"B", "1", leaves("-5", 9)}, {"(B)^-1", "-5", leaves("1", 11)}, {"E", "7", leaves("-7", 5)}, {"(E)^-2", "7", leaves("7", 13)},
	})
	define(t, x, "A", "A(", api.ErrTerm)
	define(t, x, "A", "Z", api.ErrUnknown)
	checkOutcome(t, x, "A", "1", leaves("-1", 2))
	checkRan(t, x, "Z", "1", 10, failed(api.ErrUnknown))
	checkRan(t, x, "(Z)^0", "1", 10, failed(api.ErrUnknown))
}

// Runs that use up all of MaxFuel, and one step more; runs without an end in
// sight; names within names, as deep as fuel lasts and deeper.
func TestRunMaxFuel(t *testing.T) {
	x := New()
	checkRuns(t, x, []course{{"(()^999)^4()^994", "1", leaves("1", 5000)}, {"((n)^-2)^-833n", "1", leaves("-1", 5000)}})
	for _, term := range []string{"(()^999)^4()^995", "((n)^-2)^-833nn", "((((n)^999)^999)^999)^999", "((((n)^-999)^999)^-999)^999", "(()^999)^999", "(((((((((()^999)^999)^999)^999)^999)^999)^999)^999)^999)^999"} {
		for _, list := range []string{"", "1", twelve} {
			checkRan(t, x, term, list, api.MaxFuel, failed(api.ErrFuel))
		}
	}
	define(t, x, "D", "n", api.OK)
	define(t, x, "A", "n", api.OK)
	for range 60 {
		define(t, x, "D", "DD", api.OK)
	}
	for range 4996 {
		define(t, x, "A", "A", api.OK)
	}
	checkRan(t, x, "D", "1", api.MaxFuel, failed(api.ErrFuel))
	checkRan(t, x, "(D)^-1", "1", api.MaxFuel, failed(api.ErrFuel))
	checkRuns(t, x, []course{{"nnA", "1", leaves("-1", 5000)}, {"(A)^-1", "1", leaves("-1", 5000)}, {"(A)^1", "1", leaves("-1", 5000)}})
	checkRan(t, x, "n(A)^-1", "1", api.MaxFuel, failed(api.ErrFuel))
	for range 100000 {
		define(t, x, "A", "(A)^-1", api.OK)
	}
	checkRan(t, x, "A", "1", api.MaxFuel, failed(api.ErrFuel))
	checkRan(t, x, "(A)^-1", "1", api.MaxFuel, failed(api.ErrFuel))
}

// Lists: texts that are none, at every place of a text, of any length.
func TestNoLists(t *testing.T) {
	x := New()
	for _, list := range []string{
		",", ",,", "1,", ",1", "1,,2", "1,2,", ",1,2", "1;2", "1 2", "1, 2", "1 ,2", " 1", "1 ", " ", "1\n", "\n", "\x00", "1,\x00", "1,2\x00", "[1]", "(1)", "()", "n", "1,n", "x", "1/2,2/4", "4/2", "3/1", "1/0", "1/-2", "+1", "1,01", "01", "-0", "1,-0", "-", "1,-", "/", "1/", "1.5", "1,1000000001", "-1000000001", "1/1000000001", "18446744073709551617", "\xff", "\u0661", "1\u060c2",
		same("1", 13), same("0", 100), strings.Repeat("1,", 12), strings.Repeat(",", 12), strings.Repeat("1,", 12) + "x",
		strings.Repeat("1,", 1500000), strings.Repeat("1", 3000000), strings.Repeat(",", 3000000), "1," + strings.Repeat("0", 3000000), strings.Repeat("-", 3000000), "1/" + strings.Repeat("3", 3000000), twelve + strings.Repeat(" ", 3000000), "1" + strings.Repeat("\x00", 3000000),
	} {
		for _, term := range []string{"", "n", "(a)^-1", "vt12"} {
			checkRan(t, x, term, list, 10, failed(api.ErrList))
			checkRan(t, x, term, list, 0, failed(api.ErrList))
		}
	}
	full := same("-999999999/1000000000", api.MaxItems)
	checkOutcome(t, x, "nn", full, leaves(full, 2))
	checkOutcome(t, x, "", full, leaves(full, 0))
}

// Every text of up to six of these letters, read as a list, against math/big.
func TestEveryShortList(t *testing.T) {
	x := New()
	texts := []string{""}
	for begin := 0; begin < len(texts); begin++ {
		text := texts[begin]
		want := ran{list: text}
		for _, item := range strings.Split(text, ",") {
			if _, ok := read(item); !ok && text != "" {
				want = failed(api.ErrList)
			}
		}
		checkRan(t, x, "", text, 0, want)
		if len(text) < 6 {
			for _, letter := range "-/,012" {
				texts = append(texts, text+string(letter))
			}
		}
	}
}

// Texts that are no term, of any length.
func TestNoTermRuns(t *testing.T) {
	x := New()
	for _, term := range []string{"(", ")", "(n)", "(n)^", "(n)^1000", "n n", "x", "+", "*2/4", "<100", "t13", "d-1", "#12", "#0.0", "[n]", "\x00", "1"} {
		checkRan(t, x, term, "1", 10, failed(api.ErrTerm))
	}
	for _, piece := range []string{"n", "(", "A", "(n)^1", "\xff"} {
		checkRan(t, x, strings.Repeat(piece, 3000000/len(piece)), "1", 10, failed(api.ErrLong))
	}
	checkRan(t, x, strings.Repeat("n", api.MaxTerm+1), "1", api.MaxFuel, failed(api.ErrLong))
}

// Fuel that is none.
func TestNoFuel(t *testing.T) {
	x := New()
	for _, fuel := range []int{-1, -2, -5000, api.MaxFuel + 1, 10000, math.MaxInt32, math.MinInt32, math.MaxInt, math.MinInt} {
		for _, term := range []string{"", "n", "(a)^-1", "v"} {
			checkRan(t, x, term, "0", fuel, failed(api.ErrArg))
		}
	}
	checkRan(t, x, "", "0", 0, ran{list: "0"})
	checkRan(t, x, "", "0", api.MaxFuel, ran{list: "0"})
	for _, term := range []string{"n", "(a)^-1", "v", "t5", "()^0"} {
		checkRan(t, x, term, "0", 0, failed(api.ErrFuel))
	}
}

// Where several errors apply, the one that is named first is answered.
func TestOrderOfRunErrors(t *testing.T) {
	x := New()
	define(t, x, "A", "v", api.OK)
	long := strings.Repeat("(Z", api.MaxTerm)
	for _, c := range []struct {
		term, list string
		fuel       int
		want       api.Errno
	}{
		{long, "x", -1, api.ErrLong}, {long, "0", 0, api.ErrLong}, {"Z(", "x", -1, api.ErrTerm}, {"(Z", "0", 0, api.ErrTerm}, {"Z", "x", -1, api.ErrUnknown}, {"vZ", "0", 5, api.ErrUnknown}, {"(a)^-1Z", "0", 0, api.ErrUnknown},
		{"A", "x", -1, api.ErrList}, {"A", "0,", api.MaxFuel + 1, api.ErrList}, {"A", "x", 0, api.ErrList}, {"A", "0", -1, api.ErrArg}, {"A", "0", api.MaxFuel + 1, api.ErrArg}, {"A", "0", 0, api.ErrFuel}, {"A", "0", 1, api.ErrFuel}, {"A", "0", 2, api.ErrDomain},
	} {
		checkRan(t, x, c.term, c.list, c.fuel, failed(c.want))
	}
}

// What is run changes nothing, and what is defined elsewhere neither.
func TestRunsApart(t *testing.T) {
	x, y := New(), New()
	define(t, x, "A", "+1", api.OK)
	define(t, y, "A", "*2", api.OK)
	for range 3 {
		checkOutcome(t, x, "A", "5", leaves("6", 2))
		checkOutcome(t, y, "A", "5", leaves("10", 2))
		checkOutcome(t, x, "(A)^-2", "5", leaves("3", 7))
		checkOutcome(t, y, "(A)^-2", "5", leaves("5/4", 7))
		checkRan(t, x, "Av", "-1", 10, failed(api.ErrDomain))
		checkRan(t, New(), "A", "5", 10, failed(api.ErrUnknown))
		checkTold(t, x, "A", back(5, "(A)^-1"))
	}
}
