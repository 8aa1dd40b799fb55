// Package lists: lists of numbers, read and written.
package lists

import (
	"unwind/api"
	"unwind/number"
)

// Read reads a text that is a list and nothing else; false, if it is none.
func Read(text string) ([]number.Number, bool) {
	items := []number.Number{}
	if text == "" {
		return items, true
	}
	// A comma that ends the text still has an item behind it, an empty one,
	// which is no number.
	for start := 0; start <= len(text); {
		// A text of any length is read no further than a list can go.
		if len(items) == api.MaxItems {
			return nil, false
		}
		end := itemEnd(text, start)
		item, isNumber := number.Read(text[start:end])
		if !isNumber {
			return nil, false
		}
		items = append(items, item)
		start = end + 1
	}
	return items, true
}

// itemEnd tells the place of the first comma from a place on, or else the end
// of the text.
func itemEnd(text string, start int) int {
	end := start
	for end < len(text) && text[end] != ',' {
		end = end + 1
	}
	return end
}

// Text writes a list in the one way that Read reads.
func Text(items []number.Number) string {
	text := ""
	for place, item := range items {
		if place > 0 {
			text = text + ","
		}
		text = text + item.Text()
	}
	return text
}
