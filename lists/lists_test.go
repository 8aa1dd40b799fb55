package lists

import (
	"strings"
	"testing"

	"unwind/api"
)

// What is read is written again as it was.
func TestReadAndWrite(t *testing.T) {
	full := strings.Repeat("-999999999/1000000000,", api.MaxItems-1) + "7"
	for _, text := range []string{"", "0", "-3", "7/2", "1,2", "0,0,0", "-1/2,3,1000000000", full} {
		items, isList := Read(text)
		if !isList || Text(items) != text {
			t.Errorf("Read(%q) = %v, %v", text, items, isList)
		}
		count := 0
		if text != "" {
			count = strings.Count(text, ",") + 1
		}
		if len(items) != count {
			t.Errorf("Read(%q) has %d items", text, len(items))
		}
	}
}

// Beside a refusal stands no list.
func TestNoList(t *testing.T) {
	for _, text := range []string{",", "1,", ",1", "1,,2", "x", "1,x", "x,1", "1;2", "1 ,2", "4/2", "1,-0", "1,1000000001", strings.Repeat("1,", api.MaxItems) + "1", strings.Repeat("1,", api.MaxItems), strings.Repeat("1,", 1000000), strings.Repeat(",", 1000000), strings.Repeat("7", 1000000)} {
		if items, isList := Read(text); isList || items != nil {
			t.Errorf("Read(%.40q) = %v, %v", text, items, isList)
		}
	}
}

func TestTextOfNothing(t *testing.T) {
	if text := Text(nil); text != "" {
		t.Errorf("Text(nil) = %q", text)
	}
}
