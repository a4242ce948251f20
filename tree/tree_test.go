package tree

import "testing"

func TestHighest(t *testing.T) {
	for _, c := range []struct {
		ev   *EV
		want int64
	}{
		{Leaf[int64](0), 0},
		{Leaf[int64](7), 7},
		{Pair(Leaf[int64](2), Leaf[int64](9)), 9},
		{Pair(Pair(Leaf[int64](2), Leaf[int64](11)), Leaf[int64](9)), 11},
	} {
		if got := Highest(c.ev); got != c.want {
			t.Errorf("Highest = %d, want %d", got, c.want)
		}
	}
}

func TestSameLeaves(t *testing.T) {
	pair := Pair(Leaf(true), Leaf(true))
	for _, c := range []struct {
		left, right *ID
		want        bool
	}{
		{Leaf(true), Leaf(true), true},
		{Leaf(false), Leaf(false), true},
		{Leaf(true), Leaf(false), false},
		{Leaf(false), pair, false},
		{pair, Leaf(false), false},
		{pair, pair, false},
	} {
		if got := SameLeaves(c.left, c.right); got != c.want {
			t.Errorf("SameLeaves(%v, %v) = %v", c.left, c.right, got)
		}
	}
}
