package text

import (
	"strings"
	"testing"

	"sprigs/tree"
)

func TestWriteGivesWhatWasRead(t *testing.T) {
	for _, stamp := range []string{
		"1;0", "0;12", "(1,0);(3,0,4)", "(1,(0,1));(1,(0,0,2),1)", "((0,1),(1,0));(5,(1,2,0),(0,0,30))",
		"1;1099511627776", "0;(1099511627775,(0,1,0),0)", "0;" + strings.Repeat("(1,0,", 8) + "1" + strings.Repeat(")", 8),
	} {
		if got := Write(Read(stamp)); got != stamp {
			t.Errorf("Write(Read(%q)) = %q", stamp, got)
		}
	}
}

func TestWriteTakesTheLowestOut(t *testing.T) {
	low, high := tree.Leaf[int64](4), tree.Leaf[int64](9)
	ev := tree.Pair(tree.Pair(high, low), tree.Pair(tree.Pair(high, low), high))
	want := "(1,0);(4,(0,5,0),(0,(0,5,0),5))"
	if got := Write(tree.Stamp{ID: tree.Pair(tree.Leaf(true), tree.Leaf(false)), EV: ev}); got != want {
		t.Errorf("Write = %q, want %q", got, want)
	}
}
