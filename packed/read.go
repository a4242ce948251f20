package packed

import (
	"math/bits"

	"sprigs/api"
	"sprigs/fault"
	"sprigs/tree"
)

type reader struct {
	code  string
	at    int  // how many bits have been read
	rough bool // whether a pair was not plain
}

// Read gives the stamp that a code tells. It gives up by a fault.Fault where
// the code is not that of a plain stamp.
func Read(code string) tree.Stamp {
	if len(code) > api.MaxText {
		fault.GiveUp(api.ErrLong, 0)
	}
	r := reader{code: code}
	id := r.id(api.MaxDepth)
	ev, _ := r.ev(api.MaxDepth, 0)
	r.end()
	if tree.Highest(ev) > api.MaxCount {
		fault.GiveUp(api.ErrCount, 0)
	}
	if r.rough {
		fault.GiveUp(api.ErrPlain, 0)
	}
	return tree.Stamp{ID: id, EV: ev}
}

// id reads an ID whose row of cells can be halved so many times.
func (r *reader) id(halvings int) *tree.ID {
	if !r.open(halvings) {
		return tree.Leaf(r.bit())
	}
	left := r.id(halvings - 1)
	right := r.id(halvings - 1)
	r.rough = r.rough || tree.SameLeaves(left, right)
	return tree.Pair(left, right)
}

// ev reads an EV whose row of cells can be halved so many times, and whose
// cells have base more than it says. It gives the NUM in front as well, for
// the pair around.
func (r *reader) ev(halvings int, base int64) (*tree.EV, int64) {
	halved := r.open(halvings)
	num := r.gamma()
	if !halved {
		return tree.Leaf(base + num), num
	}
	left, leftNum := r.ev(halvings-1, base+num)
	right, rightNum := r.ev(halvings-1, base+num)
	r.rough = r.rough || tree.RoughEVs(left, right, leftNum, rightNum)
	return tree.Pair(left, right), num
}

// open reads whether brackets come, which may be only where a row can still be
// halved.
func (r *reader) open(halvings int) bool {
	opens := r.bit()
	if opens && halvings == 0 {
		r.giveUp()
	}
	return opens
}

// gamma reads a number. A row of 0s that is too long is refused on the spot,
// so that its digits can not wrap round.
func (r *reader) gamma() int64 {
	digits := 1
	for !r.bit() {
		if digits == bits.Len64(api.MaxCount+1) {
			r.giveUp()
		}
		digits++
	}
	more := int64(1)
	for range digits - 1 {
		more *= 2
		if r.bit() {
			more++
		}
	}
	if more-1 > api.MaxCount {
		r.giveUp()
	}
	return more - 1
}

// end passes the filling of the last byte.
func (r *reader) end() {
	for r.at%8 > 0 {
		if r.bit() {
			r.giveUp()
		}
	}
	if used := r.at / 8; used < len(r.code) {
		fault.GiveUp(api.ErrText, used)
	}
}

// bit reads one bit, and tells whether it is 1.
func (r *reader) bit() bool {
	if r.at == 8*len(r.code) {
		fault.GiveUp(api.ErrText, len(r.code))
	}
	set := r.code[r.at/8]<<(r.at%8)&0x80 != 0
	r.at++
	return set
}

// giveUp refuses the bit that was read last.
func (r *reader) giveUp() {
	fault.GiveUp(api.ErrText, (r.at-1)/8)
}
