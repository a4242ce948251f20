package tree

import (
	"slices"
	"strconv"
	"testing"
)

func TestHighestAndLowest(t *testing.T) {
	for _, c := range []struct {
		ev           *EV
		most, fewest int64
	}{
		{Leaf[int64](0), 0, 0},
		{Leaf[int64](7), 7, 7},
		{Pair(Leaf[int64](2), Leaf[int64](9)), 9, 2},
		{Pair(Leaf[int64](9), Leaf[int64](2)), 9, 2},
		{Pair(Pair(Leaf[int64](2), Leaf[int64](11)), Leaf[int64](9)), 11, 2},
		{Pair(Leaf[int64](5), Pair(Leaf[int64](4), Leaf[int64](3))), 5, 3},
	} {
		if most, fewest := Highest(c.ev), Lowest(c.ev); most != c.most || fewest != c.fewest {
			t.Errorf("Highest, Lowest = %d, %d, want %d, %d", most, fewest, c.most, c.fewest)
		}
	}
}

func TestPairs(t *testing.T) {
	inner := Pair(Leaf(true), Leaf(false))
	for _, c := range []struct {
		id   *ID
		want int
	}{{Leaf(true), 0}, {inner, 1}, {Pair(inner, Leaf(true)), 2}, {Pair(inner, Pair(Leaf(true), inner)), 4}} {
		if got := c.id.Pairs(); got != c.want {
			t.Errorf("Pairs = %d, want %d", got, c.want)
		}
	}
}

func TestMergeKeepsPlain(t *testing.T) {
	if got := Merge(Leaf(true), Leaf(true)); !got.IsLeaf() || !got.Value {
		t.Errorf("Merge of two 1: %v", got)
	}
	left, right := Leaf(true), Leaf(false)
	if got := Merge(left, right); got.Left != left || got.Right != right {
		t.Errorf("Merge of 1 and 0: %v", got)
	}
	pair := Merge(left, right)
	if got := Merge(pair, pair); got.IsLeaf() {
		t.Errorf("Merge of two pairs: %v", got)
	}
}

// TestSideBySide writes down what is met, and in which order it is put
// together.
func TestSideBySide(t *testing.T) {
	leaves := func(own bool, number int64) string {
		return strconv.FormatBool(own)[:1] + strconv.FormatInt(number, 10)
	}
	halves := func(left, right string) string { return "(" + left + " " + right + ")" }
	one, none := Leaf(true), Leaf(false)
	low, high := Leaf[int64](3), Leaf[int64](8)
	var got []string
	for _, id := range []*ID{one, Pair(one, none), Pair(none, Pair(one, none))} {
		for _, ev := range []*EV{low, Pair(low, high), Pair(Pair(high, low), low)} {
			got = append(got, SideBySide(id, ev, leaves, halves))
		}
	}
	want := []string{
		"t3", "(t3 t8)", "((t8 t3) t3)",
		"(t3 f3)", "(t3 f8)", "((t8 t3) f3)",
		"(f3 (t3 f3))", "(f3 (t8 f8))", "((f8 f3) (t3 f3))",
	}
	if !slices.Equal(got, want) {
		t.Errorf("SideBySide = %q, want %q", got, want)
	}
}

func TestSameLeaves(t *testing.T) {
	pair := Pair(Leaf(true), Leaf(true))
	for _, c := range []struct {
		left, right *ID
		want        bool
	}{
		{Leaf(true), Leaf(true), true},
		{Leaf(false), Leaf(false), true},
		{Leaf(true), Leaf(false), false},
		{Leaf(false), pair, false},
		{pair, Leaf(false), false},
		{pair, pair, false},
	} {
		if got := SameLeaves(c.left, c.right); got != c.want {
			t.Errorf("SameLeaves(%v, %v) = %v", c.left, c.right, got)
		}
	}
}

func TestRoughEVs(t *testing.T) {
	three, five := Leaf[int64](3), Leaf[int64](5)
	pair := Pair(three, five)
	for _, c := range []struct {
		left, right       *EV
		leftNum, rightNum int64
		want              bool
	}{
		{three, five, 0, 2, false}, {five, three, 2, 0, false}, {pair, three, 0, 0, false}, {pair, pair, 0, 0, false},
		{three, five, 1, 3, true}, {pair, three, 1, 1, true}, {pair, pair, 1, 1, true}, {three, three, 0, 0, true},
	} {
		if got := RoughEVs(c.left, c.right, c.leftNum, c.rightNum); got != c.want {
			t.Errorf("RoughEVs(%v, %v, %d, %d) = %v", c.left, c.right, c.leftNum, c.rightNum, got)
		}
	}
}
