package terms

import (
	"unwind/api"
	"unwind/number"
)

// Opposite tells the opposite of a term; false, if it has no way back.
func (t *Term) Opposite() (*Term, bool) {
	if !t.HasBack {
		return nil, false
	}
	back := newTerm()
	for at := len(t.Parts) - 1; at >= 0; at = at - 1 {
		part, hasOpposite := t.Parts[at].Opposite()
		if !hasOpposite {
			return nil, false
		}
		back.add(part)
	}
	return back, true
}

// Opposite tells the opposite of a part; false, if it has none.
func (p Part) Opposite() (Part, bool) {
	if !p.hasBack() {
		return Part{}, false
	}
	switch p.Letter {
	case '+':
		return Part{Letter: '+', Value: p.Value.Negative()}, true
	case '*':
		return p.oppositeOfTimes()
	case '<':
		return Part{Letter: '<', Count: -p.Count}, true
	case Power:
		return Part{Letter: Power, Count: -p.Count, Body: p.Body}, true
	case Under:
		return p.oppositeOfUnder()
	case Name:
		return p.oppositeOfName(), true
	}
	return oppositeOfLetter(p.Letter)
}

// oppositeOfTimes tells the opposite of *c.
func (p Part) oppositeOfTimes() (Part, bool) {
	over, errno := number.Over(p.Value)
	if errno != api.OK {
		return Part{}, false
	}
	return Part{Letter: '*', Value: over}, true
}

// oppositeOfUnder tells the opposite of [s:g].
func (p Part) oppositeOfUnder() (Part, bool) {
	body, hasOpposite := p.Body.Opposite()
	if !hasOpposite {
		return Part{}, false
	}
	return Part{Letter: Under, Over: p.Over, Body: body}, true
}

// oppositeOfName tells the opposite of a name, which is a power of it.
func (p Part) oppositeOfName() Part {
	body := newTerm()
	body.add(p)
	return Part{Letter: Power, Count: -1, Body: body}
}

// oppositeOfLetter tells the opposite of a part that is a letter alone.
func oppositeOfLetter(letter byte) (Part, bool) {
	switch letter {
	case 'n', 'v', 'r':
		return Part{Letter: letter}, true
	case 'q', 'u':
		return Part{Letter: 'w'}, true
	case 'w':
		return Part{Letter: 'u'}, true
	case 's':
		return Part{Letter: 'z'}, true
	case 'z':
		return Part{Letter: 's'}, true
	case 'p', 'm':
		return Part{Letter: 'o'}, true
	case 'o':
		return Part{Letter: 'm'}, true
	}
	return Part{}, false
}
