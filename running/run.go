// Package running: what terms make of lists, there and back, and in how many
// steps.
package running

import (
	"unwind/api"
	"unwind/number"
	"unwind/terms"
)

// Run runs a term on a list, with so many steps to use up: the list that it
// leaves, and how many steps it has used.
func Run(term *terms.Term, items []number.Number, fuel int) ([]number.Number, int, api.Errno) {
	// A term may leave the list as it is: the answer still is a list by itself.
	r := run{items: append([]number.Number{}, items...), left: fuel}
	errno := r.there(term)
	if errno != api.OK {
		return nil, 0, errno
	}
	return r.items, fuel - r.left, api.OK
}

// run is a run that is under way. Its calls change it; the first error ends
// it, and what it then holds means nothing.
//
// Terms within terms are run by calls within calls. Each of these takes a step
// ahead of the next: so they go no deeper than there is fuel.
type run struct {
	items []number.Number
	left  int
}

// way runs a term, or its way back, which it must have.
func (r *run) way(term *terms.Term, isBack bool) api.Errno {
	if isBack {
		return r.back(term)
	}
	return r.there(term)
}

// there runs a term.
func (r *run) there(term *terms.Term) api.Errno {
	for _, part := range term.Parts {
		errno := r.part(part, false)
		if errno != api.OK {
			return errno
		}
	}
	return api.OK
}

// back runs the way back of a term that has one.
func (r *run) back(term *terms.Term) api.Errno {
	for at := len(term.Parts) - 1; at >= 0; at = at - 1 {
		errno := r.part(term.Parts[at], true)
		if errno != api.OK {
			return errno
		}
	}
	return api.OK
}

// step takes one step.
func (r *run) step() api.Errno {
	if r.left < 1 {
		return api.ErrFuel
	}
	r.left = r.left - 1
	return api.OK
}

// part runs a part, or runs it backwards.
//
// Names, and unders with names in them, do not go backwards as their
// opposites: in these a power of the name takes more steps.
func (r *run) part(part terms.Part, isBack bool) api.Errno {
	errno := r.step()
	if errno != api.OK {
		return errno
	}
	switch part.Letter {
	case terms.Power:
		if isBack {
			return r.power(part.Body, -part.Count)
		}
		return r.power(part.Body, part.Count)
	case terms.Under:
		return r.under(part.Over, part.Body, isBack)
	case terms.Name:
		return r.way(part.Body, isBack)
	}
	if isBack {
		return r.opposite(part)
	}
	return r.simple(part)
}

// opposite runs the opposite of a part that holds no terms.
func (r *run) opposite(part terms.Part) api.Errno {
	opposite, hasOpposite := part.Opposite()
	if !hasOpposite {
		return api.ErrBack
	}
	return r.simple(opposite)
}

// simple runs a part that holds no terms.
func (r *run) simple(part terms.Part) api.Errno {
	items, errno := makeOf(r.items, part)
	if errno != api.OK {
		return errno
	}
	r.items = items
	return api.OK
}

// power runs a term so many times; its way back, if they are below 0.
func (r *run) power(term *terms.Term, turns int) api.Errno {
	isBack := turns < 0
	if isBack && !term.HasBack {
		return api.ErrBack
	}
	if isBack {
		turns = -turns
	}
	for turn := 0; turn < turns; turn = turn + 1 {
		errno := r.step()
		if errno != api.OK {
			return errno
		}
		errno = r.way(term, isBack)
		if errno != api.OK {
			return errno
		}
	}
	return api.OK
}
