package unwind

import (
	"maps"
	"math/big"
	"math/rand/v2"
	"strconv"
	"strings"
	"testing"

	"unwind/api"
)

// A second reading of the document, over texts alone, to compare with.

// verdict is what the document says of a text that is a term.
type verdict struct {
	unknown             bool
	back, picker, plain bool
	opposite            string

	// The term itself, and what its names stood for: of a whole text alone.
	text  string
	names book
}

// book is what names stand for.
type book map[byte]verdict

// cut takes from the front of a text all that stands in letters.
func cut(text, letters string) (front, rest string) {
	rest = strings.TrimLeft(text, letters)
	return text[:len(text)-len(rest)], rest
}

// cutNumber takes a number as far as it goes.
func cutNumber(text string, slash bool) (*big.Rat, string, bool) {
	front, rest := "", text
	if strings.HasPrefix(rest, "-") {
		front, rest = "-", rest[1:]
	}
	digits, rest := cut(rest, "0123456789")
	front += digits
	if slash && strings.HasPrefix(rest, "/") {
		digits, rest = cut(rest[1:], "0123456789")
		front += "/" + digits
	}
	value, ok := read(front)
	return value, rest, ok
}

func cutWhole(text string, least, greatest int64) (int64, string, bool) {
	value, rest, ok := cutNumber(text, false)
	if !ok || !value.IsInt() || value.Num().Int64() < least || value.Num().Int64() > greatest {
		return 0, "", false
	}
	return value.Num().Int64(), rest, true
}

// cutBracket takes what stands between the bracket that begins a text and its
// fellow; a colon outside of inner brackets parts it.
func cutBracket(text string) (inner []string, closer byte, rest string, ok bool) {
	depth, start := 0, 1
	for at := range len(text) {
		switch text[at] {
		case '(', '[':
			depth++
		case ':':
			if depth == 1 {
				inner = append(inner, text[start:at])
				start = at + 1
			}
		case ')', ']':
			depth--
			if depth == 0 {
				return append(inner, text[start:at]), text[at], text[at+1:], true
			}
		}
	}
	return nil, 0, "", false
}

const backLetters = "nnvvqwwuuwrrszzspomoom"

// judgePart judges the part that begins a text.
func judgePart(text string, names book) (verdict, string, bool) {
	letter, rest := text[:1], text[1:]
	picker := strings.Contains("r<td#", letter)
	switch {
	case strings.Contains("nvqwurszpmo", letter):
		for at := 0; at < len(backLetters); at += 2 {
			if backLetters[at] == text[0] {
				return verdict{back: true, picker: picker, plain: !strings.Contains("qp", letter), opposite: backLetters[at+1 : at+2]}, rest, true
			}
		}
	case letter == "a":
		return verdict{plain: true}, rest, true
	case strings.Contains("+*=", letter):
		value, rest, ok := cutNumber(rest, true)
		if !ok {
			return verdict{}, "", false
		}
		v := verdict{plain: true}
		if letter == "+" {
			v.back, v.opposite = true, "+"+new(big.Rat).Neg(value).RatString()
		}
		if letter == "*" && value.Sign() != 0 {
			v.back, v.opposite = true, "*"+new(big.Rat).Inv(value).RatString()
		}
		return v, rest, true
	case letter == "<":
		k, rest, ok := cutWhole(rest, -99, 99)
		return verdict{back: true, picker: true, plain: true, opposite: "<" + strconv.FormatInt(-k, 10)}, rest, ok
	case letter == "t" || letter == "d":
		_, rest, ok := cutWhole(rest, 0, 12)
		return verdict{picker: true, plain: true}, rest, ok
	case letter == "#":
		return judgePlaces(rest)
	case letter == "(" || letter == "[":
		return judgeBracket(text, names)
	case letter >= "A" && letter <= "Z":
		known, isKnown := names[text[0]]
		known.unknown = !isKnown
		known.opposite = "(" + letter + ")^-1"
		return known, rest, true
	}
	return verdict{}, "", false
}

func judgePlaces(rest string) (verdict, string, bool) {
	seen := map[int64]bool{}
	for {
		k, behind, ok := cutWhole(rest, 0, 11)
		if !ok || seen[k] {
			return verdict{}, "", false
		}
		seen[k] = true
		if !strings.HasPrefix(behind, ".") {
			return verdict{picker: true, plain: true}, behind, true
		}
		rest = behind[1:]
	}
}

func judgeBracket(text string, names book) (verdict, string, bool) {
	inner, closer, rest, ok := cutBracket(text)
	if !ok {
		return verdict{}, "", false
	}
	var of []verdict
	for _, each := range inner {
		v, ok := judge(each, names)
		if !ok {
			return verdict{}, "", false
		}
		of = append(of, v)
	}
	if text[0] == '[' {
		if closer != ']' || len(of) != 2 {
			return verdict{}, "", false
		}
		s, g := of[0], of[1]
		return verdict{
			unknown:  s.unknown || g.unknown,
			back:     g.back && (s.picker || (s.back && s.plain)),
			plain:    s.plain && g.plain,
			opposite: "[" + inner[0] + ":" + g.opposite + "]",
		}, rest, true
	}
	if closer != ')' || len(of) != 1 || !strings.HasPrefix(rest, "^") {
		return verdict{}, "", false
	}
	k, rest, ok := cutWhole(rest[1:], -999, 999)
	f := of[0]
	return verdict{
		unknown:  f.unknown,
		back:     k == 0 || (f.back && (k > 0 || f.plain)),
		picker:   f.picker,
		plain:    f.plain,
		opposite: "(" + inner[0] + ")^" + strconv.FormatInt(-k, 10),
	}, rest, ok
}

// judge judges a whole text; false, if it is no term.
func judge(text string, names book) (verdict, bool) {
	all := verdict{back: true, picker: true, plain: true}
	for text != "" {
		v, rest, ok := judgePart(text, names)
		if !ok {
			return verdict{}, false
		}
		all.unknown = all.unknown || v.unknown
		all.back = all.back && v.back
		all.picker = all.picker && v.picker
		all.plain = all.plain && v.plain
		all.opposite = v.opposite + all.opposite
		text = rest
	}
	return all, true
}

func mustJudge(t *testing.T, text string, names book) verdict {
	t.Helper()
	v, ok := judge(text, names)
	if !ok {
		t.Fatalf("no term: %q", text)
	}
	v.text, v.names = text, maps.Clone(names)
	return v
}

// judged tells what Facts and Opposite must tell of a text.
func judged(text string, names book) told {
	if len(text) > 120 {
		return refused(api.ErrLong)
	}
	v, ok := judge(text, names)
	if !ok {
		return refused(api.ErrTerm)
	}
	if v.unknown {
		return refused(api.ErrUnknown)
	}
	want := noBack(0)
	if v.back {
		want = back(1, v.opposite)
		if len(v.opposite) > 120 {
			want = told{facts: 1, backErrno: api.ErrLong}
		}
	}
	if v.picker {
		want.facts += 2
	}
	if v.plain {
		want.facts += 4
	}
	return want
}

func checkJudged(t *testing.T, x *Session, names book, text string) {
	t.Helper()
	checkTold(t, x, text, judged(text, names))
}

// Every text of up to so many of these letters.
func TestEveryShortTerm(t *testing.T) {
	x := New()
	define(t, x, "A", "t1", api.OK)
	names := book{'A': mustJudge(t, "t1", book{})}
	for _, c := range []struct {
		letters string
		length  int
	}{{"()^[]:qrA1-", 5}, {"()^-1q", 7}, {"[:]qrn", 6}, {"+*<t/-01", 5}, {"#.01-", 6}} {
		texts := []string{""}
		for begin := 0; begin < len(texts); begin++ {
			text := texts[begin]
			checkJudged(t, x, names, text)
			if len(text) < c.length {
				for _, letter := range c.letters {
					texts = append(texts, text+string(letter))
				}
			}
		}
	}
}

// maker makes terms by chance, but the same ones each time.
type maker struct{ *rand.Rand }

func (m maker) pick(from ...string) string { return from[m.IntN(len(from))] }

func (m maker) term(depth int) string {
	text := ""
	for range m.IntN(4) {
		text += m.part(depth)
	}
	return text
}

func (m maker) part(depth int) string {
	kind := m.IntN(10)
	if depth == 0 {
		kind %= 7
	}
	switch kind {
	case 0, 1, 2:
		return m.pick("n", "v", "a", "q", "w", "u", "r", "s", "z", "p", "m", "o", "r", "n")
	case 3:
		return m.pick("+", "*", "=") + m.pick("0", "1", "-1", "7/2", "-2/3", "1000000000", "1/1000000000")
	case 4:
		return m.pick("<0", "<1", "<-99", "<99", "<100", "t0", "t12", "d3", "t13", "#0", "#11.0", "#1.2.3", "#1.1")
	case 5, 6:
		return m.pick("A", "B", "C", "D")
	case 7, 8:
		return "(" + m.term(depth-1) + ")^" + m.pick("0", "1", "-1", "2", "-2", "999", "-999")
	}
	return "[" + m.term(depth-1) + ":" + m.term(depth-1) + "]"
}

// spoil takes out, lays in or changes one byte.
func (m maker) spoil(text string) string {
	at := m.IntN(len(text) + 1)
	behind := min(at+m.IntN(2), len(text))
	const letters = "()[]:^#.-/<+*=tdnqA019x"
	return text[:at] + m.pick("", letters[m.IntN(len(letters)):][:1]) + text[behind:]
}

// Sessions in which names are defined again and again, with terms and with
// texts that are nearly terms.
func TestManySessions(t *testing.T) {
	m := maker{rand.New(rand.NewPCG(5, 7))}
	for range 400 {
		x, names := New(), book{}
		for range 100 {
			text := m.term(3)
			if m.IntN(4) == 0 {
				text = m.spoil(text)
			}
			checkJudged(t, x, names, text)
			want := judged(text, names).factsErrno
			name := m.pick("A", "B", "C", "D")
			define(t, x, name, text, want)
			if want == api.OK {
				names[name[0]] = mustJudge(t, text, names)
			}
		}
	}
}
