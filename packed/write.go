// Package packed reads stamps from codes, bit by bit, and writes them.
package packed

import (
	"math/bits"

	"sprigs/tree"
)

// writer puts bits together to bytes. Bits that have not been written yet are
// 0 already, so the last byte is filled up whenever the writing ends.
type writer struct {
	bytes   []byte
	written int // how many bits
}

// Write gives the code of a stamp; it is plain, as the trees are.
func Write(stamp tree.Stamp) string {
	var w writer
	w.id(stamp.ID)
	w.ev(stamp.EV, 0)
	return string(w.bytes)
}

func (w *writer) id(id *tree.ID) {
	if id.IsLeaf() {
		w.bit(false)
		w.bit(id.Value)
		return
	}
	w.bit(true)
	w.id(id.Left)
	w.id(id.Right)
}

// ev writes by how much the numbers of an EV are above base, which the NUMs
// in front of it tell already.
func (w *writer) ev(ev *tree.EV, base int64) {
	lowest := tree.Lowest(ev)
	w.bit(!ev.IsLeaf())
	w.gamma(lowest - base)
	if !ev.IsLeaf() {
		w.ev(ev.Left, lowest)
		w.ev(ev.Right, lowest)
	}
}

// gamma writes 1 more than the number: so its digits begin with a 1, which
// ends the row of 0s.
func (w *writer) gamma(num int64) {
	more := uint64(num + 1)
	digits := bits.Len64(more)
	for range digits - 1 {
		w.bit(false)
	}
	for behind := digits - 1; behind >= 0; behind-- {
		w.bit(more>>behind&1 == 1)
	}
}

func (w *writer) bit(set bool) {
	place := w.written % 8
	if place == 0 {
		w.bytes = append(w.bytes, 0)
	}
	if set {
		w.bytes[len(w.bytes)-1] |= 0x80 >> place
	}
	w.written++
}
