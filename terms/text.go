package terms

import "strconv"

// Text writes a term as Read reads it.
func (t *Term) Text() string {
	text := ""
	for _, part := range t.Parts {
		text = text + part.text()
	}
	return text
}

// text writes a part.
func (p Part) text() string {
	letter := string(p.Letter)
	switch p.Letter {
	case '+', '*', '=':
		return letter + p.Value.Text()
	case '<', 't', 'd':
		return letter + strconv.Itoa(p.Count)
	case '#':
		return letter + placesText(p.Places)
	case Power:
		body := p.Body.Text()
		return "(" + body + ")^" + strconv.Itoa(p.Count)
	case Under:
		over := p.Over.Text()
		return "[" + over + ":" + p.Body.Text() + "]"
	case Name:
		return string(p.Name)
	}
	return letter
}

// placesText writes places with a dot between each two.
func placesText(places []int) string {
	text := ""
	for at, place := range places {
		if at > 0 {
			text = text + "."
		}
		text = text + strconv.Itoa(place)
	}
	return text
}
