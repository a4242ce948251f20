package text

import (
	"slices"
	"testing"

	"sprigs/api"
	"sprigs/fault"
	"sprigs/tree"
)

// cells lays a tree out as a row of so many cells.
func cells[V any](t *tree.Tree[V], row int) []V {
	if t.IsLeaf() {
		return slices.Repeat([]V{t.Value}, row)
	}
	return append(cells(t.Left, row/2), cells(t.Right, row/2)...)
}

func TestReadTellsCells(t *testing.T) {
	for _, c := range []struct {
		text  string
		piece []bool
		count []int64
	}{
		{"1;0", []bool{true, true, true, true}, []int64{0, 0, 0, 0}},
		{"0;12", []bool{false, false, false, false}, []int64{12, 12, 12, 12}},
		{"(1,0);(3,0,4)", []bool{true, true, false, false}, []int64{3, 3, 7, 7}},
		{"(1,(0,1));(1,(0,0,2),1)", []bool{true, true, false, true}, []int64{1, 3, 2, 2}},
		{"((0,1),(1,0));(5,(1,2,0),(0,0,30))", []bool{false, true, true, false}, []int64{8, 6, 5, 35}},
		{"1;1099511627776", []bool{true, true, true, true}, []int64{1 << 40, 1 << 40, 1 << 40, 1 << 40}},
	} {
		s := Read(c.text)
		if piece := cells(s.ID, 4); !slices.Equal(piece, c.piece) {
			t.Errorf("Read(%q): piece %v, want %v", c.text, piece, c.piece)
		}
		if count := cells(s.EV, 4); !slices.Equal(count, c.count) {
			t.Errorf("Read(%q): count %v, want %v", c.text, count, c.count)
		}
	}
}

func TestReadGivesUp(t *testing.T) {
	for _, c := range []struct {
		text string
		want fault.Fault
	}{
		{"1;x", fault.Fault{Errno: api.ErrText, Place: 2}},
		{"((1,", fault.Fault{Errno: api.ErrText, Place: 4}},
		{"1;(1099511627776,1,0)", fault.Fault{Errno: api.ErrCount, Place: 21}},
		{"(0,0);0", fault.Fault{Errno: api.ErrPlain, Place: 0}},
	} {
		func() {
			defer func() {
				if thrown := recover(); thrown != c.want {
					t.Errorf("Read(%q) threw %v, want %v", c.text, thrown, c.want)
				}
			}()
			Read(c.text)
		}()
	}
}
