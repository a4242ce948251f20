// Package tree holds what stamps are made of: what is told of a row of cells,
// halved as far as the cells differ.
package tree

// Tree tells a value for each cell of a row. A leaf has no halves, and tells
// its one value for all of its cells.
//
// Values stand in leaves alone, also where a text has numbers in front of its
// halves: so two trees can be held side by side without adding up on the way.
type Tree[V any] struct {
	Value       V
	Left, Right *Tree[V]
}

// ID tells which cells belong to a piece.
type ID = Tree[bool]

// EV tells the number of each cell.
type EV = Tree[int64]

// Stamp is a piece and a count.
type Stamp struct {
	ID *ID
	EV *EV
}

// Leaf makes a tree that tells one value for all cells.
func Leaf[V any](value V) *Tree[V] {
	return &Tree[V]{Value: value}
}

// Pair makes a tree of its two halves.
func Pair[V any](left, right *Tree[V]) *Tree[V] {
	return &Tree[V]{Left: left, Right: right}
}

// IsLeaf tells whether a tree is not halved.
func (t *Tree[V]) IsLeaf() bool {
	return t.Left == nil
}

// Halves gives the halves of a tree. Those of a leaf tell what it tells
// itself, so it can stand in for both.
func (t *Tree[V]) Halves() (left, right *Tree[V]) {
	if t.IsLeaf() {
		return t, t
	}
	return t.Left, t.Right
}

// Pairs tells how often a tree is halved.
func (t *Tree[V]) Pairs() int {
	if t.IsLeaf() {
		return 0
	}
	return 1 + t.Left.Pairs() + t.Right.Pairs()
}

// SideBySide walks two trees over the same row of cells down to where both
// are leaves. It gives what leaves makes of two of them, put together by
// halves.
func SideBySide[A, B, C any](a *Tree[A], b *Tree[B], leaves func(A, B) C, halves func(left, right C) C) C {
	if a.IsLeaf() && b.IsLeaf() {
		return leaves(a.Value, b.Value)
	}
	aLeft, aRight := a.Halves()
	bLeft, bRight := b.Halves()
	left := SideBySide(aLeft, bLeft, leaves, halves)
	right := SideBySide(aRight, bRight, leaves, halves)
	return halves(left, right)
}

// SameLeaves tells whether one leaf would do for two halves.
func SameLeaves[V comparable](left, right *Tree[V]) bool {
	return left.IsLeaf() && right.IsLeaf() && left.Value == right.Value
}

// RoughEVs tells whether two EVs make a pair that is not plain. It hangs on the
// NUMs that were read in front of them, which the trees do not keep.
func RoughEVs(left, right *EV, leftNum, rightNum int64) bool {
	return leftNum > 0 && rightNum > 0 || SameLeaves(left, right)
}

// Merge makes a tree of its two halves that is plain if they are.
func Merge[V comparable](left, right *Tree[V]) *Tree[V] {
	if SameLeaves(left, right) {
		return left
	}
	return Pair(left, right)
}

// Highest gives the greatest number that a cell has.
func Highest(ev *EV) int64 {
	if ev.IsLeaf() {
		return ev.Value
	}
	return max(Highest(ev.Left), Highest(ev.Right))
}

// Lowest gives the least number that a cell has.
func Lowest(ev *EV) int64 {
	if ev.IsLeaf() {
		return ev.Value
	}
	return min(Lowest(ev.Left), Lowest(ev.Right))
}
