// Package text reads stamps from texts, and writes them.
package text

import (
	"sprigs/api"
	"sprigs/fault"
	"sprigs/tree"
)

type reader struct {
	text string
	at   int // how many bytes have been read
	// The place of the first bracket whose pair is not plain; the text's
	// length as long as there is none.
	rough int
}

// Read gives the stamp that a text tells. It gives up by a fault.Fault where
// the text is not a plain stamp.
func Read(stamp string) tree.Stamp {
	if len(stamp) > api.MaxText {
		fault.GiveUp(api.ErrLong, 0)
	}
	r := reader{text: stamp, rough: len(stamp)}
	id := r.id(api.MaxDepth)
	r.pass(';')
	ev, _ := r.ev(api.MaxDepth, 0)
	if r.at < len(stamp) {
		r.giveUp()
	}
	if tree.Highest(ev) > api.MaxCount {
		fault.GiveUp(api.ErrCount, len(stamp))
	}
	if r.rough < len(stamp) {
		fault.GiveUp(api.ErrPlain, r.rough)
	}
	return tree.Stamp{ID: id, EV: ev}
}

// id reads an ID whose row of cells can be halved so many times.
func (r *reader) id(halvings int) *tree.ID {
	switch r.next() {
	case '0':
		r.pass('0')
		return tree.Leaf(false)
	case '1':
		r.pass('1')
		return tree.Leaf(true)
	}
	place := r.open(halvings)
	left := r.id(halvings - 1)
	r.pass(',')
	right := r.id(halvings - 1)
	r.pass(')')
	if tree.SameLeaves(left, right) {
		r.noteRough(place)
	}
	return tree.Pair(left, right)
}

// ev reads an EV whose row of cells can be halved so many times, and whose
// cells have base more than it says. It gives the NUM in front as well, for
// the pair around.
func (r *reader) ev(halvings int, base int64) (*tree.EV, int64) {
	if r.next() != '(' {
		num := r.num()
		return tree.Leaf(base + num), num
	}
	place := r.open(halvings)
	num := r.num()
	r.pass(',')
	left, leftNum := r.ev(halvings-1, base+num)
	r.pass(',')
	right, rightNum := r.ev(halvings-1, base+num)
	r.pass(')')
	if tree.RoughEVs(left, right, leftNum, rightNum) {
		r.noteRough(place)
	}
	return tree.Pair(left, right), num
}

// num reads a NUM. Behind a nought it stops, so that a further digit is
// refused by whoever reads on.
func (r *reader) num() int64 {
	if !isDigit(r.next()) {
		r.giveUp()
	}
	if r.next() == '0' {
		r.pass('0')
		return 0
	}
	num := int64(0)
	for isDigit(r.next()) {
		num = 10*num + int64(r.next()-'0')
		if num > api.MaxCount {
			r.giveUp()
		}
		r.at++
	}
	return num
}

func isDigit(b byte) bool {
	return '0' <= b && b <= '9'
}

// open passes a bracket, where a row can still be halved, and gives its place.
func (r *reader) open(halvings int) int {
	if halvings == 0 {
		r.giveUp()
	}
	place := r.at
	r.pass('(')
	return place
}

// pass reads one byte that must be as wanted.
func (r *reader) pass(wanted byte) {
	if r.next() != wanted {
		r.giveUp()
	}
	r.at++
}

// next gives the byte that comes, without passing it. At the end it is one
// that stands in no stamp: so a text that ends too early is refused at its
// end just as at a wrong byte.
func (r *reader) next() byte {
	if r.at == len(r.text) {
		return 0
	}
	return r.text[r.at]
}

// noteRough keeps the first place: inner pairs end ahead of the outer ones,
// which begin ahead of them.
func (r *reader) noteRough(place int) {
	r.rough = min(r.rough, place)
}

func (r *reader) giveUp() {
	fault.GiveUp(api.ErrText, r.at)
}
