package terms

import (
	"unwind/api"
	"unwind/number"
)

// Names is what the names A to Z stand for: nil, where nothing is defined.
type Names [26]*Term

// Place tells where a name stands in Names; false, if the letter is no name.
func Place(letter byte) (int, bool) {
	if letter < 'A' || letter > 'Z' {
		return 0, false
	}
	return int(letter - 'A'), true
}

// Read reads a text that is a term: ErrLong, if it has more than MaxTerm
// bytes; ErrTerm, if it is no term; ErrUnknown, if a name in it is not defined.
func Read(text string, names Names) (*Term, api.Errno) {
	// The bound also keeps brackets within brackets from going too deep.
	if len(text) > api.MaxTerm {
		return nil, api.ErrLong
	}
	r := reader{text: text, names: names}
	term, isTerm := r.readTerm()
	if !isTerm || r.at != len(text) {
		return nil, api.ErrTerm
	}
	if r.foundUnknown {
		return nil, api.ErrUnknown
	}
	return term, api.OK
}

// reader goes through a text. What it reads begins at the place at, which it
// then moves behind that.
type reader struct {
	text         string
	at           int
	names        Names
	foundUnknown bool
}

// readTerm reads parts up to the end of the text, or to a byte that ends the
// terms within brackets.
func (r *reader) readTerm() (*Term, bool) {
	term := newTerm()
	for r.at < len(r.text) && !endsTerm(r.text[r.at]) {
		part, isPart := r.readPart()
		if !isPart {
			return nil, false
		}
		term.add(part)
	}
	return term, true
}

// endsTerm tells if a byte ends a term within brackets.
func endsTerm(letter byte) bool {
	return letter == ')' || letter == ':' || letter == ']'
}

// readPart reads one part, as far as it goes.
func (r *reader) readPart() (Part, bool) {
	if r.at >= len(r.text) {
		return Part{}, false
	}
	letter := r.text[r.at]
	r.at = r.at + 1
	switch letter {
	case 'n', 'v', 'a', 'q', 'w', 'u', 'r', 's', 'z', 'p', 'm', 'o':
		return Part{Letter: letter}, true
	case '+', '*', '=':
		return r.readValued(letter)
	case '<':
		return r.readCounted(letter, -api.MaxShift, api.MaxShift)
	case 't', 'd':
		return r.readCounted(letter, 0, api.MaxItems)
	case '#':
		return r.readPlaces()
	case Power:
		return r.readPower()
	case Under:
		return r.readUnder()
	}
	return r.readName(letter)
}

// readValued reads what follows in a part with a number.
func (r *reader) readValued(letter byte) (Part, bool) {
	start := r.at
	r.passWhole()
	slash := r.pass('/')
	if slash {
		r.passDigits()
	}
	value, isNumber := number.Read(r.text[start:r.at])
	if !isNumber {
		return Part{}, false
	}
	return Part{Letter: letter, Value: value}, true
}

// readCounted reads what follows in a part with a whole number.
func (r *reader) readCounted(letter byte, least int, greatest int) (Part, bool) {
	count, isCount := r.readWhole(least, greatest)
	if !isCount {
		return Part{}, false
	}
	return Part{Letter: letter, Count: count}, true
}

// readPlaces reads the places of a part that begins with #.
func (r *reader) readPlaces() (Part, bool) {
	places := []int{}
	for more := true; more; more = r.pass('.') {
		place, isPlace := r.readWhole(0, api.MaxItems-1)
		if !isPlace || contains(places, place) {
			return Part{}, false
		}
		places = append(places, place)
	}
	return Part{Letter: '#', Places: places}, true
}

// contains tells if a place is among others.
func contains(places []int, place int) bool {
	for _, other := range places {
		if other == place {
			return true
		}
	}
	return false
}

// readPower reads what follows in (f)^k.
func (r *reader) readPower() (Part, bool) {
	body, isTerm := r.readTermUpTo(')')
	if !isTerm {
		return Part{}, false
	}
	raised := r.pass('^')
	if !raised {
		return Part{}, false
	}
	count, isCount := r.readWhole(-api.MaxTurns, api.MaxTurns)
	if !isCount {
		return Part{}, false
	}
	return Part{Letter: Power, Count: count, Body: body}, true
}

// readUnder reads what follows in [s:g].
func (r *reader) readUnder() (Part, bool) {
	over, isTerm := r.readTermUpTo(':')
	if !isTerm {
		return Part{}, false
	}
	body, isTerm := r.readTermUpTo(']')
	if !isTerm {
		return Part{}, false
	}
	return Part{Letter: Under, Over: over, Body: body}, true
}

// readTermUpTo reads a term within brackets and the letter that must end it.
func (r *reader) readTermUpTo(end byte) (*Term, bool) {
	term, isTerm := r.readTerm()
	if !isTerm {
		return nil, false
	}
	ended := r.pass(end)
	if !ended {
		return nil, false
	}
	return term, true
}

// readName takes a letter for a name. A name that is not defined does not end
// the reading: behind it there may be what is no term, which goes ahead.
func (r *reader) readName(letter byte) (Part, bool) {
	place, isName := Place(letter)
	if !isName {
		return Part{}, false
	}
	body := r.names[place]
	if body == nil {
		r.foundUnknown = true
		body = newTerm()
	}
	return Part{Letter: Name, Name: letter, Body: body}, true
}

// readWhole reads a whole number within bounds.
func (r *reader) readWhole(least int, greatest int) (int, bool) {
	start := r.at
	r.passWhole()
	whole, isWhole := number.ReadWhole(r.text[start:r.at])
	if !isWhole || whole < least || whole > greatest {
		return 0, false
	}
	return whole, true
}

// passWhole goes behind a sign, if there is one, and all digits.
func (r *reader) passWhole() {
	r.pass('-')
	r.passDigits()
}

// passDigits goes behind all digits.
func (r *reader) passDigits() {
	for r.at < len(r.text) && r.text[r.at] >= '0' && r.text[r.at] <= '9' {
		r.at = r.at + 1
	}
}

// pass goes behind a letter, if it is there.
func (r *reader) pass(letter byte) bool {
	if r.at >= len(r.text) || r.text[r.at] != letter {
		return false
	}
	r.at = r.at + 1
	return true
}
