// Package unwind: functions over lists of exact fractions, and the way back: see DOC.md.
package unwind

import (
	"unwind/api"
	"unwind/lists"
	"unwind/running"
	"unwind/terms"
)

// Session keeps what was defined.
type Session struct {
	names terms.Names
}

// New begins a session (P5).
func New() *Session { return &Session{} }

// Define gives a term a name (P5).
func (x *Session) Define(name string, term string) api.Errno {
	if len(name) != 1 {
		return api.ErrName
	}
	place, isName := terms.Place(name[0])
	if !isName {
		return api.ErrName
	}
	read, errno := terms.Read(term, x.names)
	if errno != api.OK {
		return errno
	}
	x.names[place] = read
	return api.OK
}

// Facts tells what is known of a term (P6).
func (x *Session) Facts(term string) (int, api.Errno) {
	read, errno := terms.Read(term, x.names)
	if errno != api.OK {
		return 0, errno
	}
	facts := 0
	if read.HasBack {
		facts = facts + api.HasBack
	}
	if read.IsPicker {
		facts = facts + api.IsPicker
	}
	if read.IsPlain {
		facts = facts + api.IsPlain
	}
	return facts, api.OK
}

// Opposite writes the way back of a term (P7).
func (x *Session) Opposite(term string) (string, api.Errno) {
	read, errno := terms.Read(term, x.names)
	if errno != api.OK {
		return "", errno
	}
	back, hasBack := read.Opposite()
	if !hasBack {
		return "", api.ErrBack
	}
	text := back.Text()
	if len(text) > api.MaxTerm {
		return "", api.ErrLong
	}
	return text, api.OK
}

// Apply runs a term on a list (P8).
func (x *Session) Apply(term string, list string, fuel int) (string, int, api.Errno) {
	read, errno := terms.Read(term, x.names)
	if errno != api.OK {
		return "", 0, errno
	}
	items, isList := lists.Read(list)
	if !isList {
		return "", 0, api.ErrList
	}
	if fuel < 0 || fuel > api.MaxFuel {
		return "", 0, api.ErrArg
	}
	left, steps, errno := running.Run(read, items, fuel)
	if errno != api.OK {
		return "", 0, errno
	}
	return lists.Text(left), steps, api.OK
}
