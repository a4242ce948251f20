// Package fault has what is thrown where something can not be read.
package fault

import "sprigs/api"

// Fault is an error and its place. It is thrown by GiveUp deep inside, and
// caught by the calls of package sprigs.
type Fault struct {
	Errno api.Errno
	Place int
}

// GiveUp ends the reading; it does not return.
func GiveUp(errno api.Errno, place int) {
	panic(Fault{Errno: errno, Place: place})
}
