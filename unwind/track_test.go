package unwind

import (
	"math/big"
	"math/rand/v2"
	"slices"
	"strconv"
	"strings"
	"testing"

	"unwind/api"
)

// A second reading of what the document says of runs, over texts and with
// math/big, to compare with.

// track is a run under way.
type track struct {
	items      []*big.Rat
	used, fuel int
}

func (k *track) step() api.Errno {
	if k.used == k.fuel {
		return api.ErrFuel
	}
	k.used++
	return api.OK
}

// cutParts cuts a text that is a term into the texts of its parts.
func cutParts(text string) []string {
	var parts []string
	for text != "" {
		_, rest, _ := judgePart(text, book{})
		parts = append(parts, text[:len(text)-len(rest)])
		text = rest
	}
	return parts
}

// run runs a term, or its way back.
func (k *track) run(text string, names book, isBack bool) api.Errno {
	parts := cutParts(text)
	if isBack {
		slices.Reverse(parts)
	}
	for _, part := range parts {
		errno := k.step()
		if errno == api.OK {
			errno = k.part(part, names, isBack)
		}
		if errno != api.OK {
			return errno
		}
	}
	return api.OK
}

func (k *track) part(part string, names book, isBack bool) api.Errno {
	if known, isName := names[part[0]]; isName {
		return k.run(known.text, known.names, isBack)
	}
	if part[0] == '(' {
		inner, _, rest, _ := cutBracket(part)
		turns, _ := strconv.Atoi(rest[1:])
		if isBack {
			turns = -turns
		}
		return k.power(inner[0], names, turns)
	}
	if part[0] == '[' {
		inner, _, _, _ := cutBracket(part)
		return k.under(inner[0], inner[1], names, isBack)
	}
	if isBack {
		v, _, _ := judgePart(part, names)
		part = v.opposite
	}
	made, errno := trackPart(part, k.items)
	k.items = made
	return errno
}

func (k *track) power(text string, names book, turns int) api.Errno {
	v, _ := judge(text, names)
	if turns < 0 && !v.back {
		return api.ErrBack
	}
	for range max(turns, -turns) {
		errno := k.step()
		if errno == api.OK {
			errno = k.run(text, names, turns < 0)
		}
		if errno != api.OK {
			return errno
		}
	}
	return api.OK
}

func (k *track) under(over, text string, names book, isBack bool) api.Errno {
	v, _ := judge(over, names)
	if v.picker {
		return k.underPicker(over, text, names, isBack)
	}
	if !v.back || !v.plain {
		return api.ErrBack
	}
	errno := k.run(over, names, false)
	if errno == api.OK {
		errno = k.run(text, names, isBack)
	}
	if errno == api.OK {
		errno = k.run(over, names, true)
	}
	return errno
}

func (k *track) underPicker(picker, text string, names book, isBack bool) api.Errno {
	all := slices.Clone(k.items)
	k.items = nil
	for at := range all {
		k.items = append(k.items, big.NewRat(int64(at), 1))
	}
	if errno := k.run(picker, names, false); errno != api.OK {
		return errno
	}
	places := k.items
	k.items = nil
	for _, place := range places {
		k.items = append(k.items, all[place.Num().Int64()])
	}
	if errno := k.run(text, names, isBack); errno != api.OK {
		return errno
	}
	if len(k.items) != len(places) {
		return api.ErrLength
	}
	for at, place := range places {
		all[place.Num().Int64()] = k.items[at]
	}
	k.items = all
	return api.OK
}

// trackPart tells what a part without brackets makes of a list.
func trackPart(part string, old []*big.Rat) ([]*big.Rat, api.Errno) {
	behind := part[1:]
	length := len(old)
	whole, _ := strconv.Atoi(behind)
	var places []int
	switch part[0] {
	case 'r':
		for at := range length {
			places = append(places, length-1-at)
		}
	case '<':
		for at := range length {
			from := at + whole
			for from < 0 {
				from += length
			}
			for from >= length {
				from -= length
			}
			places = append(places, from)
		}
	case 't':
		for at := range whole {
			places = append(places, at)
		}
	case 'd':
		if whole > length {
			return nil, api.ErrLength
		}
		for at := whole; at < length; at++ {
			places = append(places, at)
		}
	case '#':
		for _, text := range strings.Split(behind, ".") {
			place, _ := strconv.Atoi(text)
			places = append(places, place)
		}
	default:
		return trackItems(part[0], behind, old)
	}
	var made []*big.Rat
	for _, place := range places {
		if place >= length {
			return nil, api.ErrLength
		}
		made = append(made, old[place])
	}
	return made, api.OK
}

func trackItems(letter byte, behind string, old []*big.Rat) ([]*big.Rat, api.Errno) {
	if letter == 'm' {
		for at := range len(old) - 1 {
			if old[at].Sign() == 0 {
				return nil, api.ErrDomain
			}
		}
	}
	made := []*big.Rat{}
	for at := range old {
		item, errno := trackItem(letter, behind, old, at)
		if errno != api.OK {
			return nil, errno
		}
		if !within(item) {
			return nil, api.ErrLimit
		}
		made = append(made, item)
	}
	return made, api.OK
}

// trackItem tells one item of a new list out of the old list alone.
func trackItem(letter byte, behind string, old []*big.Rat, at int) (*big.Rat, api.Errno) {
	item, number := old[at], new(big.Rat)
	if behind != "" {
		number.SetString(behind)
	}
	fresh := new(big.Rat)
	switch letter {
	case 'n':
		return fresh.Neg(item), api.OK
	case 'v':
		if item.Sign() == 0 {
			return nil, api.ErrDomain
		}
		return fresh.Inv(item), api.OK
	case 'a':
		return fresh.Abs(item), api.OK
	case 'u':
		if item.Sign() < 0 {
			return nil, api.ErrDomain
		}
		return fresh.Mul(item, item), api.OK
	case 'q':
		return fresh.Mul(item, item), api.OK
	case 'w':
		wanted := wantedRoot(item)
		if wanted.errno == api.OK {
			fresh.SetString(wanted.text)
		}
		return fresh, wanted.errno
	case '+':
		return fresh.Add(item, number), api.OK
	case '*':
		return fresh.Mul(item, number), api.OK
	case '=':
		return number, api.OK
	case 's':
		for _, each := range old[:at+1] {
			fresh.Add(fresh, each)
		}
		return fresh, api.OK
	case 'p', 'm':
		fresh.SetInt64(1)
		for _, each := range old[:at+1] {
			fresh.Mul(fresh, each)
		}
		return fresh, api.OK
	}
	if at == 0 {
		return item, api.OK
	}
	if letter == 'z' {
		return fresh.Sub(item, old[at-1]), api.OK
	}
	if old[at-1].Sign() == 0 {
		return nil, api.ErrDomain
	}
	return fresh.Quo(item, old[at-1]), api.OK
}

// tracked tells what Apply must answer, with a term, a list and fuel that are
// such.
func tracked(term, list string, names book, fuel int) ran {
	k := track{fuel: fuel}
	if list != "" {
		for _, text := range strings.Split(list, ",") {
			item, _ := read(text)
			k.items = append(k.items, item)
		}
	}
	if errno := k.run(term, names, false); errno != api.OK {
		return failed(errno)
	}
	var texts []string
	for _, item := range k.items {
		texts = append(texts, item.RatString())
	}
	return ran{strings.Join(texts, ","), k.used, api.OK}
}

// list makes a list, of any length, of numbers that are mostly small.
func (m maker) list() string {
	var items []string
	for range m.pick("", "1", "12", "123", "1234", "123456789012") {
		items = append(items, m.pick("0", "1", "-1", "2", "-3", "4", "9", "1/2", "-1/3", "4/9", "7", "-12/5", "1", "2", "31622", "1000000000", "-1/1000000000"))
	}
	return strings.Join(items, ",")
}

// runTerm makes a term to be run; where it is tame, one that rarely ends in an
// error.
func (m maker) runTerm(depth int, isTame bool) string {
	text := ""
	for range m.IntN(4) {
		text += m.runPart(depth, isTame)
	}
	return text
}

func (m maker) runPart(depth int, isTame bool) string {
	kind := m.IntN(16)
	switch {
	case kind < 3:
		return m.pick("n", "r", "s", "z", "<1", "<-1", "<99", "+1", "+-1/2", "*2", "*-2/3")
	case kind < 6 && isTame:
		return m.pick("n", "r", "s", "z", "u", "w", "m", "o", "p", "q", "+1", "*-1")
	case kind < 6:
		return m.pick("v", "a", "q", "w", "u", "p", "m", "o", "=2", "=0", "*0", "t1", "t2", "d1", "d0", "#0", "#1.0", "#2.0.1", "+1000000000", "*1/1000000000", "t12", "<-99")
	case kind < 8:
		return m.pick("A", "B", "C")
	case depth == 0:
		return m.pick("n", "r", "+1")
	}
	inner := m.runTerm(depth-1, isTame)
	if kind < 12 {
		return "(" + inner + ")^" + m.pick("0", "1", "-1", "2", "-2", "3", "-3", "1", "-1")
	}
	return "[" + m.over(depth-1, isTame) + ":" + inner + "]"
}

// over makes a term under which another is to be run: mostly a picker.
func (m maker) over(depth int, isTame bool) string {
	if m.IntN(3) == 0 {
		return m.runTerm(depth, isTame)
	}
	text := ""
	for range m.IntN(3) {
		text += m.pick("r", "<1", "<-2", "t0", "t1", "d1", "#0", "#1.0", "(r<1)^-1", "(d1)^2", "(t1)^0", "P", "Q", "n", "v", "s", "*2", "+1")
	}
	if !isTame {
		text += m.pick("", "", "t2", "#2.0", "(t1)^-1", "q", "A", "B")
	}
	return text
}

// Sessions in which names are defined again and again, and terms are run with
// them; with fuel enough, with just enough, and with less.
func TestManyRuns(t *testing.T) {
	m := maker{rand.New(rand.NewPCG(8, 3))}
	seen, seenUnder := map[api.Errno]int{}, map[api.Errno]int{}
	for range 300 {
		x, names := New(), book{}
		for _, name := range []string{"A", "B", "C", "P", "Q"} {
			define(t, x, name, "", api.OK)
			names[name[0]] = mustJudge(t, "", book{})
		}
		for range 60 {
			isTame := m.IntN(2) == 0
			term, list := m.runTerm(3, isTame), m.list()
			if len(term) > api.MaxTerm {
				continue
			}
			for _, fuel := range []int{api.MaxFuel, m.IntN(30)} {
				want := tracked(term, list, names, fuel)
				seen[want.errno]++
				if strings.Contains(term, "[") {
					seenUnder[want.errno]++
				}
				checkRan(t, x, term, list, fuel, want)
				checkLessFuel(t, x, term, list, want)
			}
			if m.IntN(3) == 0 {
				name := m.pick("A", "B", "C")
				define(t, x, name, term, api.OK)
				names[name[0]] = mustJudge(t, term, names)
				picker, text := m.pick("P", "Q"), m.pick("r", "<1", "d1", "rP", "Qt1", "#1.0", "(P)^-1", "n")
				define(t, x, picker, text, api.OK)
				names[picker[0]] = mustJudge(t, text, names)
			}
		}
	}
	for _, errno := range []api.Errno{api.OK, api.ErrFuel, api.ErrLength, api.ErrDomain, api.ErrLimit, api.ErrBack} {
		if seen[errno] < 1000 || seenUnder[errno] < 1000 {
			t.Errorf("only %d runs, %d with unders, answered %d", seen[errno], seenUnder[errno], errno)
		}
	}
}

// checkLessFuel runs what has left a list again, with fuel that just suffices,
// and with one step less.
func checkLessFuel(t *testing.T, x *Session, term, list string, was ran) {
	t.Helper()
	if was.errno != api.OK {
		return
	}
	checkRan(t, x, term, list, was.steps, was)
	if was.steps > 0 {
		checkRan(t, x, term, list, was.steps-1, failed(api.ErrFuel))
	}
}

// What the way back of a term makes of a list, the term makes the list of
// again, in as many steps; and the opposite of the term is that way back.
func TestThereAndBack(t *testing.T) {
	m := maker{rand.New(rand.NewPCG(12, 1))}
	gone, goneUnder := 0, 0
	for range 300 {
		x := New()
		for _, name := range []string{"A", "B", "C", "P", "Q"} {
			define(t, x, name, "", api.OK)
		}
		for range 60 {
			term, list := m.runTerm(2, true), m.list()
			if len(term) > api.MaxTerm-6 {
				continue
			}
			opposite, errno := x.Opposite(term)
			if errno != api.OK {
				continue
			}
			was := apply(x, "("+term+")^-1", list, api.MaxFuel)
			other := apply(x, opposite, list, api.MaxFuel)
			if was.errno != api.ErrFuel && other.errno != api.ErrFuel && (was.errno != other.errno || was.list != other.list) {
				t.Errorf("%q on %q: backwards %v, its opposite %q %v", term, list, was, opposite, other)
			}
			if was.errno == api.OK {
				gone++
				if strings.Contains(term, "[") {
					goneUnder++
				}
				checkRan(t, x, "("+term+")^1", was.list, api.MaxFuel, ran{list, was.steps, api.OK})
			}
			define(t, x, m.pick("A", "B", "C"), m.pick(term, "+1", "rs", "(*2)^-1"), api.OK)
			define(t, x, m.pick("P", "Q"), m.pick("r", "<1", "d1", "rP", "(Q)^1t1"), api.OK)
		}
	}
	if gone < 3000 || goneUnder < 3000 {
		t.Errorf("only %d ways back, %d with unders, were gone", gone, goneUnder)
	}
}
