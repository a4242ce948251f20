// Package piece works on pieces, the cells that stamps hold.
package piece

import (
	"sprigs/api"
	"sprigs/tree"
)

const lineCells = 1 << api.MaxDepth

// None gives the piece without a cell.
func None() *tree.ID {
	return tree.Leaf(false)
}

// Share tells how many cells a piece has.
func Share(id *tree.ID) int {
	return shareOf(id, lineCells)
}

// shareOf tells how many cells of a row belong to a piece.
func shareOf(id *tree.ID, row int) int {
	if !id.IsLeaf() {
		return shareOf(id.Left, row/2) + shareOf(id.Right, row/2)
	}
	if id.Value {
		return row
	}
	return 0
}

// Cut makes two pieces of one that has at least two cells.
func Cut(id *tree.ID) (a, b *tree.ID) {
	switch {
	case id.IsLeaf():
		return tree.Pair(id, None()), tree.Pair(None(), id)
	case isNone(id.Left):
		a, b = Cut(id.Right)
		return tree.Pair(None(), a), tree.Pair(None(), b)
	case isNone(id.Right):
		a, b = Cut(id.Left)
		return tree.Pair(a, None()), tree.Pair(b, None())
	}
	return tree.Pair(id.Left, None()), tree.Pair(None(), id.Right)
}

func isNone(id *tree.ID) bool {
	return id.IsLeaf() && !id.Value
}

// Clash tells whether two pieces have a cell in common.
func Clash(a, b *tree.ID) bool {
	return tree.SideBySide(a, b, both, either)
}

// Join gives the piece that has the cells of both.
func Join(a, b *tree.ID) *tree.ID {
	return tree.SideBySide(a, b, eitherLeaf, tree.Merge[bool])
}

func eitherLeaf(a, b bool) *tree.ID {
	return tree.Leaf(a || b)
}

func both(a, b bool) bool   { return a && b }
func either(a, b bool) bool { return a || b }
