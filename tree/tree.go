// Package tree holds what stamps are made of: what is told of a row of cells,
// halved as far as the cells differ.
package tree

// Tree tells a value for each cell of a row. A leaf has no halves, and tells
// its one value for all of its cells.
//
// Values stand in leaves alone, also where a text has numbers in front of its
// halves: so two trees can be held side by side without adding up on the way.
type Tree[V any] struct {
	Value       V
	Left, Right *Tree[V]
}

// ID tells which cells belong to a piece.
type ID = Tree[bool]

// EV tells the number of each cell.
type EV = Tree[int64]

// Stamp is a piece and a count.
type Stamp struct {
	ID *ID
	EV *EV
}

// Leaf makes a tree that tells one value for all cells.
func Leaf[V any](value V) *Tree[V] {
	return &Tree[V]{Value: value}
}

// Pair makes a tree of its two halves.
func Pair[V any](left, right *Tree[V]) *Tree[V] {
	return &Tree[V]{Left: left, Right: right}
}

// IsLeaf tells whether a tree is not halved.
func (t *Tree[V]) IsLeaf() bool {
	return t.Left == nil
}

// SameLeaves tells whether one leaf would do for two halves.
func SameLeaves[V comparable](left, right *Tree[V]) bool {
	return left.IsLeaf() && right.IsLeaf() && left.Value == right.Value
}

// Highest gives the greatest number that a cell has.
func Highest(ev *EV) int64 {
	if ev.IsLeaf() {
		return ev.Value
	}
	return max(Highest(ev.Left), Highest(ev.Right))
}
