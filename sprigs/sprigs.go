// Package sprigs: stamps that tell what was ahead of what: see DOC.md.
package sprigs

import (
	"sprigs/api"
	"sprigs/count"
	"sprigs/fault"
	"sprigs/packed"
	"sprigs/piece"
	"sprigs/text"
	"sprigs/tree"
)

// Check looks whether a text is a stamp (P3).
func Check(stamp string) (api.Errno, int) {
	_, errno, place := read(stamp)
	return errno, place
}

// Fork makes two stamps of one (P4).
func Fork(stamp string) (string, string, api.Errno) {
	s, errno, _ := read(stamp)
	if errno != api.OK {
		return "", "", errno
	}
	switch piece.Share(s.ID) {
	case 0:
		return "", "", api.ErrNone
	case 1:
		return "", "", api.ErrDeep
	}
	a, b := piece.Cut(s.ID)
	return text.Write(tree.Stamp{ID: a, EV: s.EV}), text.Write(tree.Stamp{ID: b, EV: s.EV}), api.OK
}

// Peek makes one that holds nothing (P4).
func Peek(stamp string) (string, api.Errno) {
	s, errno, _ := read(stamp)
	if errno != api.OK {
		return "", errno
	}
	return text.Write(tree.Stamp{ID: piece.None(), EV: s.EV}), api.OK
}

// Join makes one stamp of two (P4).
func Join(a string, b string) (string, api.Errno) {
	s, t, errno := readTwo(a, b)
	if errno != api.OK {
		return "", errno
	}
	if piece.Clash(s.ID, t.ID) {
		return "", api.ErrClash
	}
	return text.Write(tree.Stamp{ID: piece.Join(s.ID, t.ID), EV: count.Join(s.EV, t.EV)}), api.OK
}

// Share tells how much a stamp holds (P4).
func Share(stamp string) (int, api.Errno) {
	s, errno, _ := read(stamp)
	if errno != api.OK {
		return 0, errno
	}
	return piece.Share(s.ID), api.OK
}

// Event counts on (P5).
func Event(stamp string) (string, api.Errno) {
	s, errno, _ := read(stamp)
	if errno != api.OK {
		return "", errno
	}
	if piece.Share(s.ID) == 0 {
		return "", api.ErrNone
	}
	ev := count.Event(s.ID, s.EV)
	if ev == nil {
		return "", api.ErrCount
	}
	return text.Write(tree.Stamp{ID: s.ID, EV: ev}), api.OK
}

// Leq tells whether all that one stamp knows another one knows too (P6).
func Leq(a string, b string) (bool, api.Errno) {
	s, t, errno := readTwo(a, b)
	if errno != api.OK {
		return false, errno
	}
	return count.AtMost(s.EV, t.EV), api.OK
}

// Encode makes bytes of a stamp (P7).
func Encode(stamp string) (string, api.Errno) {
	s, errno, _ := read(stamp)
	if errno != api.OK {
		return "", errno
	}
	return packed.Write(s), api.OK
}

// Decode makes a stamp of bytes (P7).
func Decode(code string) (string, api.Errno, int) {
	s, errno, place := catch(packed.Read, code)
	if errno != api.OK {
		return "", errno, place
	}
	return text.Write(s), api.OK, 0
}

// readTwo gives the stamps that two texts tell, or the first one's error ahead
// of the second one's.
func readTwo(a, b string) (s, t tree.Stamp, errno api.Errno) {
	s, errno, _ = read(a)
	if errno != api.OK {
		return s, t, errno
	}
	t, errno, _ = read(b)
	return s, t, errno
}

// read gives the stamp that a text tells, or the error and its place.
func read(stamp string) (tree.Stamp, api.Errno, int) {
	return catch(text.Read, stamp)
}

// catch gives the stamp that a reader makes, or the error and its place. Here
// ends what is thrown deep inside. A thing that no reader throws would be a
// mistake of the program: it goes on up, rather than pass for an answer.
func catch(reader func(string) tree.Stamp, from string) (s tree.Stamp, errno api.Errno, place int) {
	defer func() {
		switch thrown := recover().(type) {
		case nil:
		case fault.Fault:
			errno, place = thrown.Errno, thrown.Place
		default:
			panic(thrown)
		}
	}()
	return reader(from), api.OK, 0
}
