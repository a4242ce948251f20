// Package count works on counts, the numbers that cells have.
package count

import "sprigs/tree"

// Join gives each cell the greater one of its two numbers.
func Join(a, b *tree.EV) *tree.EV {
	return tree.SideBySide(a, b, greaterLeaf, tree.Merge[int64])
}

func greaterLeaf(a, b int64) *tree.EV {
	return tree.Leaf(max(a, b))
}

// AtMost tells whether no cell has a greater number in a than in b.
func AtMost(a, b *tree.EV) bool {
	return tree.SideBySide(a, b, atMost, both)
}

func atMost(a, b int64) bool { return a <= b }
func both(a, b bool) bool    { return a && b }
