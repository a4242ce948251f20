package count

import (
	"testing"

	"sprigs/api"
	"sprigs/text"
	"sprigs/tree"
)

// expectEvent asks for the very EV: P5 leaves open which one it is, but it is
// not to change by chance from one release to the next.
func expectEvent(t *testing.T, stamp, want string) {
	t.Helper()
	s := text.Read(stamp)
	ev := Event(s.ID, s.EV)
	if ev == nil {
		t.Fatalf("Event(%q): nil, want %q", stamp, want)
	}
	if got := text.Write(tree.Stamp{ID: s.ID, EV: ev}); got != want {
		t.Errorf("Event(%q) = %q, want %q", stamp, got, want)
	}
}

func TestEventFillsUp(t *testing.T) {
	expectEvent(t, "1;(0,1,(0,0,3))", "1;3")
	expectEvent(t, "(1,0);(0,0,3)", "(1,0);3")
	expectEvent(t, "(0,1);(0,3,0)", "(0,1);3")
	expectEvent(t, "(1,0);(0,0,(3,0,1))", "(1,0);(3,0,(0,0,1))")
	expectEvent(t, "(0,1);(0,(3,0,1),0)", "(0,1);(3,(0,0,1),0)")
	expectEvent(t, "(1,(0,1));(0,0,(0,3,0))", "(1,(0,1));3")
}

func TestEventGrows(t *testing.T) {
	expectEvent(t, "1;7", "1;8")
	expectEvent(t, "(1,0);0", "(1,0);(0,1,0)")
	expectEvent(t, "(1,0);(0,1,0)", "(1,0);(0,2,0)")
	expectEvent(t, "((1,0),1);(1,(0,2,0),0)", "((1,0),1);(1,(0,3,0),0)")
	expectEvent(t, "(0,((0,1),0));7", "(0,((0,1),0));(7,0,(0,(0,0,1),0))")
}

func TestEventGrowsWhereItIsCheap(t *testing.T) {
	expectEvent(t, "((1,0),(0,1));0", "((1,0),(0,1));(0,(0,1,0),0)")
	expectEvent(t, "((0,1),1);0", "((0,1),1);(0,0,1)")
	expectEvent(t, "((1,0),(1,0));(0,0,(0,1,0))", "((1,0),(1,0));(0,0,(0,2,0))")
}

func TestEventKeepsTheBound(t *testing.T) {
	expectEvent(t, "(1,0);(1099511627775,0,1)", "(1,0);1099511627776")
	expectEvent(t, "((0,1),(0,1));(0,(0,0,1099511627776),(0,0,5))", "((0,1),(0,1));(0,(0,0,1099511627776),(0,0,6))")
	full := tree.Leaf[int64](api.MaxCount)
	if ev := Event(tree.Leaf(true), full); ev != nil {
		t.Errorf("Event of a full count: %v, want nil", ev)
	}
	if ev := Event(tree.Leaf(false), tree.Leaf[int64](0)); ev != nil {
		t.Errorf("Event of no piece: %v, want nil", ev)
	}
}
