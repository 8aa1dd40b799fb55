package number

import "unwind/api"

// Read reads a text that is a number and nothing else; false, if it is none.
func Read(text string) (Number, bool) {
	start := 0
	if len(text) > 0 && text[0] == '-' {
		start = 1
	}
	top, slash, isTop := readDigits(text, start)
	if !isTop {
		return Number{}, false
	}
	if start == 1 {
		// 0 is written without a sign.
		if top == 0 {
			return Number{}, false
		}
		top = -top
	}
	if slash == len(text) {
		return Number{top: top, bottom: 1}, true
	}
	bottom, isBottom := readBottom(text, slash)
	if !isBottom || commonDivisor(size(top), bottom) != 1 {
		return Number{}, false
	}
	return Number{top: top, bottom: bottom}, true
}

// ReadWhole reads a text that is a whole number; false, if it is none.
func ReadWhole(text string) (int, bool) {
	read, isNumber := Read(text)
	if !isNumber {
		return 0, false
	}
	return read.Whole()
}

// readBottom reads the slash and the digits behind it, up to the end of the
// text. Below 2 there is nothing to be written behind a slash.
func readBottom(text string, slash int) (int64, bool) {
	if slash < 0 || slash >= len(text) || text[slash] != '/' {
		return 0, false
	}
	bottom, end, isBottom := readDigits(text, slash+1)
	if !isBottom || end != len(text) || bottom < 2 {
		return 0, false
	}
	return bottom, true
}

// readDigits reads all digits from a place on: their value, and the place
// behind them. False, if there are none, if a 0 leads others, or if the value
// is above MaxNumber; it then stops at once, so that no text is too long.
func readDigits(text string, start int) (int64, int, bool) {
	if start < 0 || start >= len(text) || !isDigit(text[start]) {
		return 0, 0, false
	}
	value := int64(0)
	at := start
	for at < len(text) && isDigit(text[at]) {
		if at > start && value == 0 {
			return 0, 0, false
		}
		value = value*10 + int64(text[at]-'0')
		if value > api.MaxNumber {
			return 0, 0, false
		}
		at = at + 1
	}
	return value, at, true
}

// isDigit tells if a byte is one of 0 to 9.
func isDigit(letter byte) bool {
	return letter >= '0' && letter <= '9'
}
