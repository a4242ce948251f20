package count

import (
	"sprigs/api"
	"sprigs/tree"
)

// Event counts on, on the cells of a piece: it gives nil, if none of them can
// have a greater number. Where numbers can be raised so that the tree has no
// more halves than it had, that is done; only where not, one part of the
// piece gets 1 more, which may cost halves.
func Event(id *tree.ID, ev *tree.EV) *tree.EV {
	if filled := fill(id, ev); !AtMost(filled, ev) {
		return filled
	}
	return grow(id, ev)
}

// filling is what becomes of a row of cells that is filled up. If all of them
// are of the piece, the row is a leaf.
type filling struct {
	own bool
	ev  *tree.EV
}

// fill raises the numbers of a piece to those that stand beside them already.
func fill(id *tree.ID, ev *tree.EV) *tree.EV {
	return tree.SideBySide(id, ev, fillLeaf, fillHalves).ev
}

func fillLeaf(own bool, number int64) filling {
	return filling{own: own, ev: tree.Leaf(number)}
}

func fillHalves(left, right filling) filling {
	if left.own && right.own {
		return filling{own: true, ev: greaterLeaf(left.ev.Value, right.ev.Value)}
	}
	if left.own {
		left.ev = greaterLeaf(left.ev.Value, tree.Lowest(right.ev))
	}
	if right.own {
		right.ev = greaterLeaf(right.ev.Value, tree.Lowest(left.ev))
	}
	return filling{own: false, ev: tree.Merge(left.ev, right.ev)}
}

// growth is a row of cells as it was, and with 1 more in a part of the piece;
// that is nil, if the row has no such part.
type growth struct {
	old, grown *tree.EV
}

// grow gives 1 more to one part of a piece.
func grow(id *tree.ID, ev *tree.EV) *tree.EV {
	return tree.SideBySide(id, ev, growLeaf, growHalves).grown
}

func growLeaf(own bool, number int64) growth {
	g := growth{old: tree.Leaf(number)}
	if own && number < api.MaxCount {
		g.grown = tree.Leaf(number + 1)
	}
	return g
}

func growHalves(left, right growth) growth {
	return growth{
		old:   tree.Merge(left.old, right.old),
		grown: shorter(mergeAny(left.grown, right.old), mergeAny(left.old, right.grown)),
	}
}

// mergeAny gives nil, if a half is missing.
func mergeAny(left, right *tree.EV) *tree.EV {
	if left == nil || right == nil {
		return nil
	}
	return tree.Merge(left, right)
}

// shorter gives the tree with fewer halves, and the first one of two alike.
func shorter(a, b *tree.EV) *tree.EV {
	if a == nil || b != nil && b.Pairs() < a.Pairs() {
		return b
	}
	return a
}
