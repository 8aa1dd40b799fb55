// Package unwind: functions over lists of exact fractions, and the way back: see DOC.md.
package unwind

import "unwind/api"

// Session keeps what was defined.
type Session struct{}

// New begins a session (P5).
func New() *Session { return nil }

// Define gives a term a name (P5).
func (x *Session) Define(name string, term string) api.Errno { return api.OK }

// Facts tells what is known of a term (P6).
func (x *Session) Facts(term string) (int, api.Errno) { return 0, api.OK }

// Opposite writes the way back of a term (P7).
func (x *Session) Opposite(term string) (string, api.Errno) { return "", api.OK }

// Apply runs a term on a list (P8).
func (x *Session) Apply(term string, list string, fuel int) (string, int, api.Errno) {
	return "", 0, api.OK
}
