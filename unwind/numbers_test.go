package unwind

import (
	"math/big"
	"strings"
	"testing"

	"unwind/api"
)

// answer is what a call of the four answers.
type answer struct {
	text  string
	errno api.Errno
}

func plus(a, b string) answer {
	text, errno := Plus(a, b)
	return answer{text, errno}
}

func times(a, b string) answer {
	text, errno := Times(a, b)
	return answer{text, errno}
}

func over(a string) answer {
	text, errno := Over(a)
	return answer{text, errno}
}

func root(a string) answer {
	text, errno := Root(a)
	return answer{text, errno}
}

func refusal(errno api.Errno) answer { return answer{"", errno} }

func good(text string) answer { return answer{text, api.OK} }

var maxNumber = big.NewInt(api.MaxNumber)

// within tells if a fraction is a number within MaxNumber.
func within(r *big.Rat) bool {
	return r.Num().CmpAbs(maxNumber) <= 0 && r.Denom().Cmp(maxNumber) <= 0
}

// read tells, with math/big, what number a text of digits, - and / is.
func read(text string) (*big.Rat, bool) {
	r, ok := new(big.Rat).SetString(text)
	if !ok || r.RatString() != text || !within(r) {
		return nil, false
	}
	return r, true
}

func wanted(r *big.Rat) answer {
	if !within(r) {
		return refusal(api.ErrLimit)
	}
	return good(r.RatString())
}

func wantedRoot(r *big.Rat) answer {
	if r.Sign() < 0 {
		return refusal(api.ErrDomain)
	}
	square := func(of *big.Int) *big.Int { return new(big.Int).Sqrt(of) }
	found := new(big.Rat).SetFrac(square(r.Num()), square(r.Denom()))
	if new(big.Rat).Mul(found, found).Cmp(r) != 0 {
		return refusal(api.ErrDomain)
	}
	return wanted(found)
}

func checkOne(t *testing.T, text string) {
	t.Helper()
	wantOver, wantRoot := refusal(api.ErrNumber), refusal(api.ErrNumber)
	if r, ok := read(text); ok {
		wantRoot = wantedRoot(r)
		wantOver = refusal(api.ErrDomain)
		if r.Sign() != 0 {
			wantOver = wanted(new(big.Rat).Inv(r))
		}
	}
	if got := over(text); got != wantOver {
		t.Errorf("P4: Over(%.40q) = %v, want %v", text, got, wantOver)
	}
	if got := root(text); got != wantRoot {
		t.Errorf("P4: Root(%.40q) = %v, want %v", text, got, wantRoot)
	}
}

func checkTwo(t *testing.T, a, b string) {
	t.Helper()
	wantPlus, wantTimes := refusal(api.ErrNumber), refusal(api.ErrNumber)
	left, leftOk := read(a)
	right, rightOk := read(b)
	if leftOk && rightOk {
		wantPlus = wanted(new(big.Rat).Add(left, right))
		wantTimes = wanted(new(big.Rat).Mul(left, right))
	}
	if got := plus(a, b); got != wantPlus {
		t.Errorf("P3: Plus(%.40q, %.40q) = %v, want %v", a, b, got, wantPlus)
	}
	if got := times(a, b); got != wantTimes {
		t.Errorf("P3: Times(%.40q, %.40q) = %v, want %v", a, b, got, wantTimes)
	}
}

// The examples of the document, word for word.
func TestExamples(t *testing.T) {
	for _, c := range []struct {
		what      string
		got, want answer
	}{
		{"Plus(1/2, 1/3)", plus("1/2", "1/3"), good("5/6")},
		{"Plus(1/2, -1/2)", plus("1/2", "-1/2"), good("0")},
		{"Plus(1000000000, 1)", plus("1000000000", "1"), refusal(api.ErrLimit)},
		{"Times(2/3, 3/2)", times("2/3", "3/2"), good("1")},
		{"Times(1/1000000000, 1/2)", times("1/1000000000", "1/2"), refusal(api.ErrLimit)},
		{"Over(-2/3)", over("-2/3"), good("-3/2")},
		{"Root(4/9)", root("4/9"), good("2/3")},
		{"Root(2)", root("2"), refusal(api.ErrDomain)},
		{"Root(-4)", root("-4"), refusal(api.ErrDomain)},
		{"Plus(4/2, 1)", plus("4/2", "1"), refusal(api.ErrNumber)},
	} {
		if c.got != c.want {
			t.Errorf("%s = %v, want %v", c.what, c.got, c.want)
		}
	}
}

// Results at both sides of MaxNumber, above and below the line.
func TestLimits(t *testing.T) {
	for _, c := range []struct {
		what      string
		got, want answer
	}{
		{"to MaxNumber", plus("999999999", "1"), good("1000000000")},
		{"above MaxNumber", plus("999999999", "2"), refusal(api.ErrLimit)},
		{"to -MaxNumber", plus("-999999999", "-1"), good("-1000000000")},
		{"below -MaxNumber", plus("-1000000000", "-1"), refusal(api.ErrLimit)},
		{"from MaxNumber to 0", plus("1000000000", "-1000000000"), good("0")},
		{"twice MaxNumber", plus("1000000000", "1000000000"), refusal(api.ErrLimit)},
		{"a bottom of MaxNumber", plus("1/1000000000", "1/500000000"), good("3/1000000000")},
		{"a sum in lowest terms", plus("1/1000000000", "3/1000000000"), good("1/250000000")},
		{"a bottom above MaxNumber", plus("1/999999999", "1/1000000000"), refusal(api.ErrLimit)},
		{"the greatest values in between", plus("1000000000/999999999", "1000000000/999999997"), refusal(api.ErrLimit)},
		{"a top above MaxNumber", plus("1000000000", "1/2"), refusal(api.ErrLimit)},
		{"a product of MaxNumber", times("-500000000", "2"), good("-1000000000")},
		{"a product above MaxNumber", times("333333334", "3"), refusal(api.ErrLimit)},
		{"a product below -MaxNumber", times("333333334", "-3"), refusal(api.ErrLimit)},
		{"a product's bottom of MaxNumber", times("1/500000000", "1/2"), good("1/1000000000")},
		{"a product's bottom above it", times("1/333333334", "1/3"), refusal(api.ErrLimit)},
		{"a product that comes down", times("1000000000/999999999", "999999999/1000000000"), good("1")},
		{"times 0", times("-1/1000000000", "0"), good("0")},
		{"over MaxNumber", over("1000000000"), good("1/1000000000")},
		{"over its negative", over("-1000000000"), good("-1/1000000000")},
		{"over a whole part", over("-1/1000000000"), good("-1000000000")},
		{"over 0", over("0"), refusal(api.ErrDomain)},
		{"root of 0", root("0"), good("0")},
		{"the greatest root", root("999950884"), good("31622")},
		{"the least root above 0", root("1/999950884"), good("1/31622")},
		{"root of MaxNumber", root("1000000000"), refusal(api.ErrDomain)},
		{"a square above the line alone", root("4/3"), refusal(api.ErrDomain)},
		{"a square below the line alone", root("3/4"), refusal(api.ErrDomain)},
		{"a square's negative", root("-4/9"), refusal(api.ErrDomain)},
	} {
		if c.got != c.want {
			t.Errorf("%s: %v, want %v", c.what, c.got, c.want)
		}
	}
}

// Each two of many numbers, the edges among them, against math/big.
func TestAgainstBig(t *testing.T) {
	var values []string
	for top := int64(-12); top <= 12; top++ {
		for bottom := int64(1); bottom <= 12; bottom++ {
			if r := big.NewRat(top, bottom); r.Denom().Int64() == bottom {
				values = append(values, r.RatString())
			}
		}
	}
	edges := []int64{1, 2, 3, 31622, 31623, 65536, 333333333, 333333334, 499999999, 500000000, 500000001, 536870912, 999950883, 999950884, 999999997, 999999998, 999999999, 1000000000}
	for _, top := range edges {
		for _, bottom := range edges {
			r := big.NewRat(top, bottom)
			values = append(values, r.RatString(), new(big.Rat).Neg(r).RatString())
		}
	}
	for _, a := range values {
		checkOne(t, a)
		for _, b := range values {
			checkTwo(t, a, b)
		}
	}
}

// Every root there is of a whole number, and its neighbours.
func TestRoots(t *testing.T) {
	for value := int64(0); value <= 31622; value++ {
		square := value * value
		for _, near := range []int64{square - 1, square, square + 1} {
			r := big.NewRat(near, 1)
			if got, want := root(r.RatString()), wantedRoot(r); got != want {
				t.Fatalf("P4: Root(%s) = %v, want %v", r.RatString(), got, want)
			}
		}
	}
}

// Every text of up to six of these letters, against math/big. (SetString of
// math/big takes more than numbers, but writes them in one way only.)
func TestEveryShortText(t *testing.T) {
	const letters = "-/0126"
	texts := []string{""}
	for begin := 0; begin < len(texts); begin++ {
		text := texts[begin]
		checkOne(t, text)
		checkTwo(t, text, "1/6")
		checkTwo(t, "0", text)
		if len(text) < 6 {
			for _, letter := range letters {
				texts = append(texts, text+string(letter))
			}
		}
	}
}

// Every byte alone, ahead of a number, within it, and behind it.
func TestEveryByte(t *testing.T) {
	for letter := 0; letter < 256; letter++ {
		s := string([]byte{byte(letter)})
		for _, text := range []string{s, s + "7", "7" + s, "7" + s + "3", "7/3" + s, "7/" + s + "3", "-" + s + "7"} {
			checkOne(t, text)
		}
	}
}

// Numbers about MaxNumber, and texts of any length.
func TestLongTexts(t *testing.T) {
	for _, text := range []string{"999999999", "1000000000", "-1000000000", "1/1000000000", "-999999999/1000000000", "1000000000/999999999"} {
		if got := times(text, "1"); got != good(text) {
			t.Errorf("P3: Times(%q, 1) = %v", text, got)
		}
	}
	const million = 1000000
	wrong := []string{
		"1000000001", "-1000000001", "1/1000000001", "1000000001/2", "2/1000000001", "9999999999", "4294967296", "4294967297",
		"9223372036854775807", "9223372036854775808", "-9223372036854775808", "-9223372036854775809", "18446744073709551616", "18446744073709551617", "1/18446744073709551618", "340282366920938463463374607431768211457",
		"01", "00", "-01", "1/02", "0000000001", "1/00", "+1", "1/+2", "1/-2", "-1/-2", "--1", "1/2/3", "1//2", "1.5", "1e3", "0x1", "1_000", " 1", "1 ", "1\n", "1\x00", "\u0661", "\xff", "1,2",
		strings.Repeat("1", million), strings.Repeat("0", million), strings.Repeat("-", million), strings.Repeat("/", million), "-" + strings.Repeat("9", million), "1/" + strings.Repeat("3", million), "1/" + strings.Repeat("0", million) + "3", strings.Repeat("1/", million), "1" + strings.Repeat(" ", million), "1/2" + strings.Repeat("\x00", million),
	}
	refused := refusal(api.ErrNumber)
	for _, text := range wrong {
		for _, got := range []answer{plus(text, "1"), plus("1", text), plus(text, text), times(text, "0"), times("0", text), over(text), root(text)} {
			if got != refused {
				t.Errorf("P3, P4: with %.40q: %v, want %v", text, got, refused)
			}
		}
	}
}

// A text that is no number goes ahead of a result that is none (P1).
func TestFirstError(t *testing.T) {
	for _, got := range []answer{plus("1000000001", "1000000000"), plus("1000000000", "01"), times("1000000000", "1000000000/1"), over("-0"), over("0/1"), root("-4/2"), root("-0")} {
		if got != refusal(api.ErrNumber) {
			t.Errorf("P1: %v, want ErrNumber", got)
		}
	}
}

// Calls in between, refused ones too, change no answer (P2).
func TestSameAgain(t *testing.T) {
	for range 3 {
		if got := plus("1/2", "1/3"); got != good("5/6") {
			t.Errorf("P2: Plus = %v", got)
		}
		if got := times("1/2", "x"); got != refusal(api.ErrNumber) {
			t.Errorf("P2: Times = %v", got)
		}
		if got := over("0"); got != refusal(api.ErrDomain) {
			t.Errorf("P2: Over = %v", got)
		}
		if got := times("-1/2", "1/3"); got != good("-1/6") {
			t.Errorf("P2: Times = %v", got)
		}
		if got := root("1/4"); got != good("1/2") {
			t.Errorf("P2: Root = %v", got)
		}
	}
}
