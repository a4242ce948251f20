package sprigs

import (
	"math/rand"
	"slices"
	"strings"
	"testing"

	"sprigs/api"
)

// inOneAnother tells how many brackets of a text are.
func inOneAnother(text string) int {
	open, most := 0, 0
	for _, b := range text {
		switch b {
		case '(':
			open++
		case ')':
			open--
		}
		most = max(most, open)
	}
	return most
}

// expectEvent looks at all that P5 asks of a stamp that can count on, and
// gives the one that came.
func expectEvent(t *testing.T, stamp string) string {
	t.Helper()
	got, errno := Event(stamp)
	if errno != api.OK {
		t.Fatalf("P5: Event(%q) = %q, %d, want OK", stamp, got, errno)
	}
	was, is := layOut(t, stamp), layOut(t, got)
	if !slices.Equal(was.piece, is.piece) {
		t.Errorf("P5: Event(%q) = %q: another piece", stamp, got)
	}
	most, raised := slices.Max(was.count)+1, false
	for i := range was.count {
		raised = raised || is.count[i] > was.count[i]
		if is.count[i] < was.count[i] || is.count[i] > was.count[i] && !was.piece[i] || is.count[i] > most {
			t.Fatalf("P5: Event(%q) = %q: cell %d has %d, and had %d", stamp, got, i, is.count[i], was.count[i])
		}
	}
	if !raised {
		t.Errorf("P5: Event(%q) = %q: no greater number", stamp, got)
	}
	id, ev, _ := strings.Cut(stamp, ";")
	_, now, _ := strings.Cut(got, ";")
	if strings.Count(now, "(") > strings.Count(ev, "(")+inOneAnother(id) {
		t.Errorf("P5: Event(%q) = %q: too many brackets", stamp, got)
	}
	return got
}

func TestEventWhereJustOneIsRight(t *testing.T) {
	for stamp, want := range map[string]string{
		"1;0": "1;1", "1;41": "1;42", "1;1099511627775": "1;1099511627776",
		deepID(8) + ";0": deepID(8) + ";" + deepEV(8),
	} {
		if got := expectEvent(t, stamp); got != want {
			t.Errorf("P5: Event(%q) = %q, want %q", stamp, got, want)
		}
	}
}

func TestEventErrors(t *testing.T) {
	for stamp, want := range map[string]api.Errno{
		"0;0": api.ErrNone, "0;1099511627776": api.ErrNone, "0;(0,1,0)": api.ErrNone,
		"1;1099511627776": api.ErrCount, "(1,0);(0,1099511627776,0)": api.ErrCount, "(0,1);(1099511627775,0,1)": api.ErrCount,
		"((1,0),(0,1));(0,(0,1099511627776,0),(1,0,1099511627775))": api.ErrCount,
		deepID(8) + ";1099511627776":                                api.ErrCount,
		"0;(0,1,1)":                                                 api.ErrPlain, "(1,1);1099511627776": api.ErrPlain, "0;": api.ErrText,
		"0;(1099511627776,0,1)": api.ErrCount,
	} {
		if got, errno := Event(stamp); got != "" || errno != want {
			t.Errorf("P5: Event(%q) = %q, %d, want %d", stamp, got, errno, want)
		}
	}
}

// TestEventFindsTheLastCell: all cells of the piece but one have MaxCount.
func TestEventFindsTheLastCell(t *testing.T) {
	for _, at := range []int{0, 1, 100, 127, 128, 254, 255} {
		l := line{piece: slices.Repeat([]bool{true}, 256), count: slices.Repeat([]int{api.MaxCount}, 256)}
		l.piece[(at+1)%256], l.count[(at+1)%256] = false, 0
		l.count[at] = api.MaxCount - 1
		full := expectEvent(t, l.stamp())
		if got, errno := Event(full); got != "" || errno != api.ErrCount {
			t.Errorf("P5: Event(%q) = %q, %d, want ErrCount", full, got, errno)
		}
	}
}

// TestEventOfSmallTrees goes through all stamps of 4 parts whose NUMs are up
// to 2.
func TestEventOfSmallTrees(t *testing.T) {
	allIDs(2, func(id string, piece []bool) {
		if id != plainID(piece) || !slices.Contains(piece, true) {
			return
		}
		allEVs(2, 0, func(ev string, count []int) {
			if ev == plainEV(count, 0) {
				expectEvent(t, id+";"+ev)
			}
		})
	})
}

func TestEventByCells(t *testing.T) {
	random := rand.New(rand.NewSource(7))
	for range 3000 {
		l := randomLine(random)
		canGrow := false
		for i, own := range l.piece {
			canGrow = canGrow || own && l.count[i] < api.MaxCount
		}
		want := api.ErrCount
		if l.share() == 0 {
			want = api.ErrNone
		}
		if canGrow {
			expectEvent(t, l.stamp())
		} else if got, errno := Event(l.stamp()); got != "" || errno != want {
			t.Errorf("P5: Event(%q) = %q, %d, want %d", l.stamp(), got, errno, want)
		}
	}
}

// TestEventsInARow: one after the other, each of them counts on.
func TestEventsInARow(t *testing.T) {
	for _, stamp := range []string{"1;0", "(1,0);0", "((1,0),(0,1));(0,3,(0,0,9))", deepID(8) + ";0", "(0,((0,1),(1,(0,1))));(2,0,(0,0,1))"} {
		for range 300 {
			stamp = expectEvent(t, stamp)
		}
	}
}
