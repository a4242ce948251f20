// Package sprigs: stamps that tell what was ahead of what: see DOC.md.
package sprigs

import (
	"sprigs/api"
	"sprigs/fault"
	"sprigs/text"
	"sprigs/tree"
)

// Check looks whether a text is a stamp (P3).
func Check(stamp string) (api.Errno, int) {
	_, errno, place := read(stamp)
	return errno, place
}

// Fork makes two stamps of one (P4).
func Fork(stamp string) (string, string, api.Errno) { return "", "", checkAll(stamp) }

// Peek makes one that holds nothing (P4).
func Peek(stamp string) (string, api.Errno) { return "", checkAll(stamp) }

// Join makes one stamp of two (P4).
func Join(a string, b string) (string, api.Errno) { return "", checkAll(a, b) }

// Share tells how much a stamp holds (P4).
func Share(stamp string) (int, api.Errno) { return 0, checkAll(stamp) }

// Event counts on (P5).
func Event(stamp string) (string, api.Errno) { return "", checkAll(stamp) }

// Leq tells whether all that one stamp knows another one knows too (P6).
func Leq(a string, b string) (bool, api.Errno) { return false, checkAll(a, b) }

// Encode makes bytes of a stamp (P7).
func Encode(stamp string) (string, api.Errno) { return "", checkAll(stamp) }

// Decode makes a stamp of bytes (P7).
func Decode(code string) (string, api.Errno, int) { return "", api.OK, 0 }

// checkAll gives the error of the first stamp that has one.
func checkAll(stamps ...string) api.Errno {
	for _, stamp := range stamps {
		if errno, _ := Check(stamp); errno != api.OK {
			return errno
		}
	}
	return api.OK
}

// read gives the stamp that a text tells, or the error and its place. Here
// ends what is thrown deep inside. A thing that no reader throws would be a
// mistake of the program: it goes on up, rather than pass for an answer.
func read(stamp string) (s tree.Stamp, errno api.Errno, place int) {
	defer func() {
		switch thrown := recover().(type) {
		case nil:
		case fault.Fault:
			errno, place = thrown.Errno, thrown.Place
		default:
			panic(thrown)
		}
	}()
	return text.Read(stamp), api.OK, 0
}
