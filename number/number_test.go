package number

import (
	"math"
	"strconv"
	"testing"

	"unwind/api"
)

// What is read is written again as it was.
func TestReadAndWrite(t *testing.T) {
	for _, text := range []string{"0", "1", "-1", "-3", "7/2", "-7/2", "1/1000000000", "-1000000000", "1000000000/999999999"} {
		read, isNumber := Read(text)
		if !isNumber || read.Text() != text {
			t.Errorf("Read(%q) = %v, %v", text, read, isNumber)
		}
	}
}

// Beside a refusal stands the zero value alone.
func TestRefusals(t *testing.T) {
	for _, text := range []string{"", "-", "-0", "01", "4/2", "3/1", "1/0", "1/", "5/x", "5/7x", "1000000001", "1/1000000001"} {
		if read, isNumber := Read(text); isNumber || read != (Number{}) {
			t.Errorf("Read(%q) = %v, %v", text, read, isNumber)
		}
	}
	great := Number{top: api.MaxNumber, bottom: 1}
	if sum, errno := Plus(great, great); errno != api.ErrLimit || sum != (Number{}) {
		t.Errorf("Plus = %v, %d", sum, errno)
	}
	if product, errno := Times(great, great); errno != api.ErrLimit || product != (Number{}) {
		t.Errorf("Times = %v, %d", product, errno)
	}
	if over, errno := Over(Number{top: 0, bottom: 1}); errno != api.ErrDomain || over != (Number{}) {
		t.Errorf("Over = %v, %d", over, errno)
	}
	if root, errno := Root(Number{top: 4, bottom: 3}); errno != api.ErrDomain || root != (Number{}) {
		t.Errorf("Root = %v, %d", root, errno)
	}
}

// The zero value is no number; no call panics at it.
func TestZeroValue(t *testing.T) {
	nothing := Number{}
	one := Number{top: 1, bottom: 1}
	if sum, errno := Plus(nothing, one); errno == api.OK {
		t.Errorf("Plus = %v", sum)
	}
	if product, errno := Times(one, nothing); errno == api.OK {
		t.Errorf("Times = %v", product)
	}
	if over, errno := Over(nothing); errno == api.OK {
		t.Errorf("Over = %v", over)
	}
	if root, errno := Root(nothing); errno == api.OK && root != nothing {
		t.Errorf("Root = %v", root)
	}
	if text := nothing.Text(); text != "0" {
		t.Errorf("Text = %q", text)
	}
}

func TestReadWhole(t *testing.T) {
	for _, c := range []struct {
		text  string
		whole int
	}{{"0", 0}, {"7", 7}, {"-12", -12}, {"1000000000", api.MaxNumber}, {"-1000000000", -api.MaxNumber}} {
		if whole, isWhole := ReadWhole(c.text); !isWhole || whole != c.whole {
			t.Errorf("ReadWhole(%q) = %d, %v", c.text, whole, isWhole)
		}
	}
	for _, text := range []string{"", "-", "-0", "01", "1/2", "-7/2", "4/2", "3/1", "1/", "x", "1000000001"} {
		if whole, isWhole := ReadWhole(text); isWhole || whole != 0 {
			t.Errorf("ReadWhole(%q) = %d, %v", text, whole, isWhole)
		}
	}
}

// Whole values become numbers and come back, up to the bounds.
func TestWhole(t *testing.T) {
	for _, value := range []int{0, 1, -1, 11, 12, api.MaxNumber, -api.MaxNumber} {
		made, errno := OfWhole(value)
		if text := strconv.Itoa(value); errno != api.OK || made.Text() != text {
			t.Errorf("OfWhole(%d) = %v, %d", value, made, errno)
		}
		if whole, isWhole := made.Whole(); !isWhole || whole != value {
			t.Errorf("%d comes back as %d, %v", value, whole, isWhole)
		}
	}
	for _, value := range []int{api.MaxNumber + 1, -api.MaxNumber - 1, math.MaxInt, math.MinInt} {
		if made, errno := OfWhole(value); errno != api.ErrLimit || made != (Number{}) {
			t.Errorf("OfWhole(%d) = %v, %d", value, made, errno)
		}
	}
	for _, broken := range []Number{{top: 1, bottom: 2}, {top: -7, bottom: 2}, {top: 1, bottom: api.MaxNumber}, {}} {
		if whole, isWhole := broken.Whole(); isWhole || whole != 0 {
			t.Errorf("%v is whole: %d, %v", broken, whole, isWhole)
		}
	}
}

func TestNegative(t *testing.T) {
	for _, c := range []struct{ text, negative string }{{"0", "0"}, {"1", "-1"}, {"-1", "1"}, {"-7/2", "7/2"}, {"1000000000", "-1000000000"}, {"1/1000000000", "-1/1000000000"}} {
		read, _ := Read(c.text)
		if got := read.Negative().Text(); got != c.negative {
			t.Errorf("the negative of %s is %s", c.text, got)
		}
		if read.IsZero() != (c.text == "0") {
			t.Errorf("IsZero of %s is %v", c.text, read.IsZero())
		}
	}
}

func TestSigns(t *testing.T) {
	for _, c := range []struct {
		text, without string
		isBelow       bool
	}{{"0", "0", false}, {"1", "1", false}, {"-1", "1", true}, {"-7/2", "7/2", true}, {"7/2", "7/2", false}, {"-1000000000", "1000000000", true}, {"-1/1000000000", "1/1000000000", true}} {
		read, _ := Read(c.text)
		if got := read.WithoutSign().Text(); got != c.without {
			t.Errorf("%s without its sign is %s", c.text, got)
		}
		if read.IsBelowZero() != c.isBelow {
			t.Errorf("IsBelowZero of %s is %v", c.text, read.IsBelowZero())
		}
	}
}
