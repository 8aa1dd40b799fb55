// Package terms: what a term is made of, what is known of it, and its opposite.
package terms

import "unwind/number"

// The letters of parts that hold terms. Every other part has the letter that
// it begins with.
const (
	Power = '(' // (f)^k
	Under = '[' // [s:g]
	Name  = 'A' // any of A to Z: the field Name tells which
)

// Part is one part of a term. Which of its fields have a meaning hangs on its
// letter.
type Part struct {
	Letter byte
	Name   byte          // of a name: its letter
	Count  int           // of < t d and a power: the number k
	Value  number.Number // of + * =: the number c
	Places []int         // of #: the places
	Body   *Term         // of a power: f; of an under: g; of a name: its term
	Over   *Term         // of an under: s
}

// Term is parts to be run one behind the other, and what is known of them
// together. Once made it is never changed: so all that name it can share it,
// and what a name stood for lasts as long as a term holds it.
//
// What is known is told when the term is made, out of what is known of the
// terms in it: names within names can stand for more parts than could be
// looked through.
type Term struct {
	Parts    []Part
	HasBack  bool
	IsPicker bool
	IsPlain  bool
}

// newTerm makes the empty term.
func newTerm() *Term {
	return &Term{HasBack: true, IsPicker: true, IsPlain: true}
}

// add lays a part behind the others, while the term is made.
func (t *Term) add(part Part) {
	t.Parts = append(t.Parts, part)
	t.HasBack = t.HasBack && part.hasBack()
	t.IsPicker = t.IsPicker && part.isPicker()
	t.IsPlain = t.IsPlain && part.isPlain()
}

// hasBack tells if a part has an opposite.
func (p Part) hasBack() bool {
	switch p.Letter {
	case 'a', '=', 't', 'd', '#':
		return false
	case '*':
		return !p.Value.IsZero()
	case Power:
		return p.Count == 0 || p.Body.HasBack && (p.Count > 0 || p.Body.IsPlain)
	case Under:
		return p.Body.HasBack && p.Over.CanStandOver()
	case Name:
		return p.Body.HasBack
	}
	return true
}

// CanStandOver tells if another term can be run under this one: if what it does
// to a list can be undone without loss.
func (t *Term) CanStandOver() bool {
	return t.IsPicker || t.HasBack && t.IsPlain
}

// isPicker tells if a part may stand in a picker.
func (p Part) isPicker() bool {
	switch p.Letter {
	case 'r', '<', 't', 'd', '#':
		return true
	case Power, Name:
		return p.Body.IsPicker
	}
	return false
}

// isPlain tells if a part may stand in a plain term.
func (p Part) isPlain() bool {
	switch p.Letter {
	case 'q', 'p':
		return false
	case Under:
		return p.Over.IsPlain && p.Body.IsPlain
	case Power, Name:
		return p.Body.IsPlain
	}
	return true
}
