// Package running: what terms make of lists, there and back, and in how many
// steps.
package running

import (
	"unwind/api"
	"unwind/number"
	"unwind/terms"
)

// Run runs a term on a list, with so many steps to use up: the list that it
// leaves, and how many steps it has used.
func Run(term *terms.Term, items []number.Number, fuel int) ([]number.Number, int, api.Errno) {
	// A term may leave the list as it is: the answer still is a list by itself.
	r := run{items: append([]number.Number{}, items...), left: fuel}
	errno := r.there(term)
	if errno != api.OK {
		return nil, 0, errno
	}
	return r.items, fuel - r.left, api.OK
}

// run is a run that is under way. Its calls change it; the first error ends
// it, and what it then holds means nothing.
//
// Terms within terms are run by calls within calls. Each of these takes a step
// ahead of the next: so they go no deeper than there is fuel.
type run struct {
	items []number.Number
	left  int
}

// there runs a term.
func (r *run) there(term *terms.Term) api.Errno {
	for _, part := range term.Parts {
		errno := r.part(part)
		if errno != api.OK {
			return errno
		}
	}
	return api.OK
}

// back runs the way back of a term that has one.
func (r *run) back(term *terms.Term) api.Errno {
	for at := len(term.Parts) - 1; at >= 0; at = at - 1 {
		errno := r.partBack(term.Parts[at])
		if errno != api.OK {
			return errno
		}
	}
	return api.OK
}

// step takes one step.
func (r *run) step() api.Errno {
	if r.left < 1 {
		return api.ErrFuel
	}
	r.left = r.left - 1
	return api.OK
}

// part runs a part.
func (r *run) part(part terms.Part) api.Errno {
	errno := r.step()
	if errno != api.OK {
		return errno
	}
	switch part.Letter {
	case terms.Power:
		return r.power(part.Body, part.Count)
	case terms.Under:
		// Unders are not run yet.
		return api.ErrBack
	case terms.Name:
		return r.there(part.Body)
	}
	items, errno := makeOf(r.items, part)
	if errno != api.OK {
		return errno
	}
	r.items = items
	return api.OK
}

// partBack runs a part backwards: as its opposite, but for a name, of which the
// opposite, a power of it, takes more steps.
func (r *run) partBack(part terms.Part) api.Errno {
	if part.Letter == terms.Name {
		return r.nameBack(part.Body)
	}
	opposite, hasOpposite := part.Opposite()
	if !hasOpposite {
		return api.ErrBack
	}
	return r.part(opposite)
}

// nameBack runs a name backwards.
func (r *run) nameBack(term *terms.Term) api.Errno {
	errno := r.step()
	if errno != api.OK {
		return errno
	}
	return r.back(term)
}

// power runs a term so many times; its way back, if they are below 0.
func (r *run) power(term *terms.Term, turns int) api.Errno {
	isBack := turns < 0
	if isBack && !term.HasBack {
		return api.ErrBack
	}
	if isBack {
		turns = -turns
	}
	for turn := 0; turn < turns; turn = turn + 1 {
		errno := r.turn(term, isBack)
		if errno != api.OK {
			return errno
		}
	}
	return api.OK
}

// turn runs a term, or its way back, as one time of a power.
func (r *run) turn(term *terms.Term, isBack bool) api.Errno {
	errno := r.step()
	if errno != api.OK {
		return errno
	}
	if isBack {
		return r.back(term)
	}
	return r.there(term)
}
