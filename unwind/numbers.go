package unwind

import (
	"unwind/api"
	"unwind/number"
)

// Plus tells the sum of two numbers (P3).
func Plus(a string, b string) (string, api.Errno) {
	left, right, errno := readTwo(a, b)
	if errno != api.OK {
		return "", errno
	}
	sum, errno := number.Plus(left, right)
	return write(sum, errno)
}

// Times tells the product of two numbers (P3).
func Times(a string, b string) (string, api.Errno) {
	left, right, errno := readTwo(a, b)
	if errno != api.OK {
		return "", errno
	}
	product, errno := number.Times(left, right)
	return write(product, errno)
}

// Over tells 1 divided by a number (P4).
func Over(a string) (string, api.Errno) {
	value, isNumber := number.Read(a)
	if !isNumber {
		return "", api.ErrNumber
	}
	over, errno := number.Over(value)
	return write(over, errno)
}

// Root tells a number's square root (P4).
func Root(a string) (string, api.Errno) {
	value, isNumber := number.Read(a)
	if !isNumber {
		return "", api.ErrNumber
	}
	root, errno := number.Root(value)
	return write(root, errno)
}

// readTwo reads two numbers: ErrNumber, if one of the texts is none.
func readTwo(a string, b string) (number.Number, number.Number, api.Errno) {
	left, leftIsNumber := number.Read(a)
	right, rightIsNumber := number.Read(b)
	if !leftIsNumber || !rightIsNumber {
		return number.Number{}, number.Number{}, api.ErrNumber
	}
	return left, right, api.OK
}

// write answers a result's text, or the error alone.
func write(result number.Number, errno api.Errno) (string, api.Errno) {
	if errno != api.OK {
		return "", errno
	}
	return result.Text(), api.OK
}
