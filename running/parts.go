package running

import (
	"unwind/api"
	"unwind/number"
	"unwind/terms"
)

// makeOf tells what a part that holds no terms makes of a list. The list
// itself stays as it is.
func makeOf(items []number.Number, part terms.Part) ([]number.Number, api.Errno) {
	switch part.Letter {
	case 'r':
		return turnRound(items), api.OK
	case '<':
		return shift(items, part.Count), api.OK
	case 't':
		return takeFirst(items, part.Count)
	case 'd':
		return takeBehind(items, part.Count)
	case '#':
		return takeAt(items, part.Places)
	case 's', 'z', 'p', 'm', 'o':
		return join(items, part.Letter)
	}
	return change(items, part)
}

// turnRound tells the items in turned order.
func turnRound(items []number.Number) []number.Number {
	made := []number.Number{}
	for place := len(items) - 1; place >= 0; place = place - 1 {
		made = append(made, items[place])
	}
	return made
}

// shift tells the items moved so many places to the left, round and round.
func shift(items []number.Number, places int) []number.Number {
	made := []number.Number{}
	length := len(items)
	for place := 0; place < length; place = place + 1 {
		// What is left of a division is below 0 where places is.
		from := ((place+places)%length + length) % length
		made = append(made, items[from])
	}
	return made
}

// takeFirst tells the first so many items.
func takeFirst(items []number.Number, count int) ([]number.Number, api.Errno) {
	if count < 0 || count > len(items) {
		return nil, api.ErrLength
	}
	return append([]number.Number{}, items[:count]...), api.OK
}

// takeBehind tells the items behind the first so many.
func takeBehind(items []number.Number, count int) ([]number.Number, api.Errno) {
	if count < 0 || count > len(items) {
		return nil, api.ErrLength
	}
	return append([]number.Number{}, items[count:]...), api.OK
}

// takeAt tells the items at these places, in their order.
func takeAt(items []number.Number, places []int) ([]number.Number, api.Errno) {
	made := []number.Number{}
	for _, place := range places {
		if place < 0 || place >= len(items) {
			return nil, api.ErrLength
		}
		made = append(made, items[place])
	}
	return made, api.OK
}

// join tells what s, z, p, m or o makes of a list: item 0 stays, and each other
// comes out of it and one ahead of it.
func join(items []number.Number, letter byte) ([]number.Number, api.Errno) {
	if letter == 'm' && hasZeroAheadOfLast(items) {
		return nil, api.ErrDomain
	}
	made := []number.Number{}
	for place, item := range items {
		if place > 0 {
			joined, errno := joinTwo(items[place-1], made[place-1], item, letter)
			if errno != api.OK {
				return nil, errno
			}
			item = joined
		}
		made = append(made, item)
	}
	return made, api.OK
}

// joinTwo tells the item that comes out of an item and the one ahead of it, as
// that was, or as it came out.
func joinTwo(oldAhead number.Number, newAhead number.Number, item number.Number, letter byte) (number.Number, api.Errno) {
	switch letter {
	case 's':
		return number.Plus(newAhead, item)
	case 'z':
		return number.Plus(item, oldAhead.Negative())
	case 'o':
		return divide(item, oldAhead)
	}
	return number.Times(newAhead, item)
}

// divide tells a divided by b: ErrDomain, if b is 0.
func divide(a number.Number, b number.Number) (number.Number, api.Errno) {
	over, errno := number.Over(b)
	if errno != api.OK {
		return number.Number{}, errno
	}
	return number.Times(a, over)
}

// hasZeroAheadOfLast tells if an item beside the last is 0.
func hasZeroAheadOfLast(items []number.Number) bool {
	for place, item := range items {
		if place < len(items)-1 && item.IsZero() {
			return true
		}
	}
	return false
}

// change tells what a part makes of a list, each item of which it changes by
// itself.
func change(items []number.Number, part terms.Part) ([]number.Number, api.Errno) {
	made := []number.Number{}
	for _, item := range items {
		changed, errno := changeOne(item, part)
		if errno != api.OK {
			return nil, errno
		}
		made = append(made, changed)
	}
	return made, api.OK
}

// changeOne tells what a part makes of one item.
func changeOne(item number.Number, part terms.Part) (number.Number, api.Errno) {
	switch part.Letter {
	case 'n':
		return item.Negative(), api.OK
	case 'v':
		return number.Over(item)
	case 'a':
		return item.WithoutSign(), api.OK
	case 'q':
		return number.Times(item, item)
	case 'w':
		return number.Root(item)
	case 'u':
		return squareOfRoot(item)
	case '+':
		return number.Plus(item, part.Value)
	case '*':
		return number.Times(item, part.Value)
	}
	// The one part that is left is =c.
	return part.Value, api.OK
}

// squareOfRoot tells the square of an item that may be a root: ErrDomain, if
// it is below 0.
func squareOfRoot(item number.Number) (number.Number, api.Errno) {
	if item.IsBelowZero() {
		return number.Number{}, api.ErrDomain
	}
	return number.Times(item, item)
}
