// Package number: exact fractions in lowest terms, within api.MaxNumber.
package number

import (
	"strconv"

	"unwind/api"
)

// Number is the fraction top/bottom: in lowest terms, bottom above 0, both
// within api.MaxNumber. Read and the calls below make no other.
//
// The parts are of 64 bits on every machine: the greatest value in between is
// a sum of two products, 2 * MaxNumber * MaxNumber, which fits.
type Number struct {
	top    int64
	bottom int64
}

// OfWhole tells a whole value as a number: ErrLimit, if it is not within
// MaxNumber.
func OfWhole(value int) (Number, api.Errno) {
	if value < -api.MaxNumber || value > api.MaxNumber {
		return Number{}, api.ErrLimit
	}
	return Number{top: int64(value), bottom: 1}, api.OK
}

// Plus tells the sum: ErrLimit, if it is no number within MaxNumber.
func Plus(a Number, b Number) (Number, api.Errno) {
	return lowest(a.top*b.bottom+b.top*a.bottom, a.bottom*b.bottom)
}

// Times tells the product: ErrLimit, if it is no number within MaxNumber.
func Times(a Number, b Number) (Number, api.Errno) {
	return lowest(a.top*b.top, a.bottom*b.bottom)
}

// Over tells 1 divided by a: ErrDomain, if a is 0.
func Over(a Number) (Number, api.Errno) {
	if a.top == 0 {
		return Number{}, api.ErrDomain
	}
	if a.top < 0 {
		return Number{top: -a.bottom, bottom: -a.top}, api.OK
	}
	return Number{top: a.bottom, bottom: a.top}, api.OK
}

// Root tells the square root of a: ErrDomain, if it has none.
//
// In lowest terms a fraction is a square only if both its parts are.
func Root(a Number) (Number, api.Errno) {
	top, topIsSquare := wholeRoot(a.top)
	bottom, bottomIsSquare := wholeRoot(a.bottom)
	if !topIsSquare || !bottomIsSquare {
		return Number{}, api.ErrDomain
	}
	return Number{top: top, bottom: bottom}, api.OK
}

// Negative tells the number with the other sign.
func (a Number) Negative() Number {
	return Number{top: -a.top, bottom: a.bottom}
}

// WithoutSign tells a, if it is not below 0, or else its negative.
func (a Number) WithoutSign() Number {
	return Number{top: size(a.top), bottom: a.bottom}
}

// IsZero tells if a is 0.
func (a Number) IsZero() bool {
	return a.top == 0
}

// IsBelowZero tells if a is below 0.
func (a Number) IsBelowZero() bool {
	return a.top < 0
}

// Whole tells the value of a whole number; false, if a is none.
func (a Number) Whole() (int, bool) {
	if a.bottom != 1 {
		return 0, false
	}
	return int(a.top), true
}

// Text writes a number in the one way that Read reads.
func (a Number) Text() string {
	top := strconv.FormatInt(a.top, 10)
	if a.bottom <= 1 {
		return top
	}
	bottom := strconv.FormatInt(a.bottom, 10)
	return top + "/" + bottom
}

// lowest brings a fraction to lowest terms.
func lowest(top int64, bottom int64) (Number, api.Errno) {
	// The zero value of Number is 0/0: it must not lead to a division by 0.
	if bottom < 1 {
		return Number{}, api.ErrNumber
	}
	divisor := commonDivisor(size(top), bottom)
	top = top / divisor
	bottom = bottom / divisor
	if size(top) > api.MaxNumber || bottom > api.MaxNumber {
		return Number{}, api.ErrLimit
	}
	return Number{top: top, bottom: bottom}, api.OK
}

// commonDivisor tells the greatest common divisor of two values of 0 or more;
// it is 0 only if both are.
func commonDivisor(a int64, b int64) int64 {
	for b != 0 {
		a, b = b, a%b
	}
	return a
}

// size tells a value without its sign.
func size(value int64) int64 {
	if value < 0 {
		return -value
	}
	return value
}

// wholeRoot tells the whole square root of a value up to MaxNumber, if it has
// one. It halves the span in which the root must be.
func wholeRoot(square int64) (int64, bool) {
	if square < 0 {
		return 0, false
	}
	low := int64(0)
	high := square
	for low < high {
		middle := (low + high + 1) / 2
		if middle*middle <= square {
			low = middle
		} else {
			high = middle - 1
		}
	}
	if low*low != square {
		return 0, false
	}
	return low, true
}
