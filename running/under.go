package running

import (
	"unwind/api"
	"unwind/number"
	"unwind/terms"
)

// under runs a term, or its way back, under another.
func (r *run) under(over *terms.Term, term *terms.Term, isBack bool) api.Errno {
	// Nothing is begun that could not be undone.
	if !over.CanStandOver() {
		return api.ErrBack
	}
	if over.IsPicker {
		return r.underPicker(over, term, isBack)
	}
	errno := r.there(over)
	if errno != api.OK {
		return errno
	}
	errno = r.way(term, isBack)
	if errno != api.OK {
		return errno
	}
	return r.back(over)
}

// underPicker runs a term, or its way back, on the items that a picker picks.
func (r *run) underPicker(picker *terms.Term, term *terms.Term, isBack bool) api.Errno {
	all := r.items
	places, errno := r.pick(picker)
	if errno != api.OK {
		return errno
	}
	picked, errno := takeAt(all, places)
	if errno != api.OK {
		return errno
	}
	r.items = picked
	errno = r.way(term, isBack)
	if errno != api.OK {
		return errno
	}
	items, errno := layInto(all, places, r.items)
	if errno != api.OK {
		return errno
	}
	r.items = items
	return api.OK
}

// pick tells the places that a picker picks: it is run on all places of the
// list, in the place of the list.
func (r *run) pick(picker *terms.Term) ([]int, api.Errno) {
	places, errno := allPlaces(len(r.items))
	if errno != api.OK {
		return nil, errno
	}
	r.items = places
	errno = r.there(picker)
	if errno != api.OK {
		return nil, errno
	}
	return readPlaces(r.items)
}

// allPlaces tells the places of a list of this length, as a list.
func allPlaces(length int) ([]number.Number, api.Errno) {
	items := []number.Number{}
	for place := 0; place < length; place = place + 1 {
		item, errno := number.OfWhole(place)
		if errno != api.OK {
			return nil, errno
		}
		items = append(items, item)
	}
	return items, api.OK
}

// readPlaces tells the places that are the items of a list: ErrLength, if one
// is no whole number, as no list has an item there.
func readPlaces(items []number.Number) ([]int, api.Errno) {
	places := []int{}
	for _, item := range items {
		place, isWhole := item.Whole()
		if !isWhole {
			return nil, api.ErrLength
		}
		places = append(places, place)
	}
	return places, api.OK
}

// layInto tells a list with these items at these places, in their order, and
// all others as they were: ErrLength, if there are not as many items as places.
func layInto(all []number.Number, places []int, items []number.Number) ([]number.Number, api.Errno) {
	if len(items) != len(places) {
		return nil, api.ErrLength
	}
	made := append([]number.Number{}, all...)
	for at, place := range places {
		if place < 0 || place >= len(made) {
			return nil, api.ErrLength
		}
		made[place] = items[at]
	}
	return made, api.OK
}
