package sprigs

import (
	"math/rand"
	"slices"
	"testing"

	"sprigs/api"
)

type forked struct {
	stamp, a, b string
	errno       api.Errno
}

func expectForks(t *testing.T, cases []forked) {
	t.Helper()
	for _, c := range cases {
		if a, b, errno := Fork(c.stamp); a != c.a || b != c.b || errno != c.errno {
			t.Errorf("P4: Fork(%q) = %q, %q, %d, want %q, %q, %d", c.stamp, a, b, errno, c.a, c.b, c.errno)
		}
	}
}

func TestForkCuts(t *testing.T) {
	expectForks(t, []forked{
		{"1;0", "(1,0);0", "(0,1);0", api.OK},
		{"1;(1,(0,3,0),2)", "(1,0);(1,(0,3,0),2)", "(0,1);(1,(0,3,0),2)", api.OK},
		{"(0,1);5", "(0,(1,0));5", "(0,(0,1));5", api.OK},
		{"((1,0),0);3", "(((1,0),0),0);3", "(((0,1),0),0);3", api.OK},
		{"(0,(0,(1,0)));0", "(0,(0,((1,0),0)));0", "(0,(0,((0,1),0)));0", api.OK},
		{"(1,(0,1));0", "(1,0);0", "(0,(0,1));0", api.OK},
		{"((1,0),1);0", "((1,0),0);0", "(0,1);0", api.OK},
		{"((1,0),(0,1));0", "((1,0),0);0", "(0,(0,1));0", api.OK},
		{"(((0,1),(1,0)),0);7", "(((0,1),0),0);7", "((0,(1,0)),0);7", api.OK},
		{"1;1099511627776", "(1,0);1099511627776", "(0,1);1099511627776", api.OK},
	})
}

func TestForkErrors(t *testing.T) {
	expectForks(t, []forked{
		{"0;0", "", "", api.ErrNone}, {"0;(0,1,0)", "", "", api.ErrNone},
		{deepID(8) + ";0", "", "", api.ErrDeep},
		{"(((((((((1,0),0),0),0),0),0),0),0),0);0", "", "", api.ErrText},
		{"0;(0,1,1)", "", "", api.ErrPlain}, {"0;x", "", "", api.ErrText},
	})
	a := "(0,(0,(0,(0,(0,(0,(0,(1,0))))))));0"
	expectForks(t, []forked{
		{deepID(7) + ";0", a, deepID(8) + ";0", api.OK},
		{a, "", "", api.ErrDeep},
		{"((((((((1,0),0),0),0),0),0),0)," + deepID(7) + ");0", "((((((((1,0),0),0),0),0),0),0),0);0", "(0," + deepID(7) + ");0", api.OK},
	})
}

// cut finds the least row that has the whole piece, halving the line: each
// rule of P4 cuts that one in its middle.
func cut(piece []bool) (a, b []bool) {
	from, to := 0, len(piece)
	for {
		middle := (from + to) / 2
		inLeft := slices.Contains(piece[from:middle], true)
		inRight := slices.Contains(piece[middle:to], true)
		if inLeft && inRight {
			a = slices.Concat(piece[:middle], make([]bool, len(piece)-middle))
			return a, slices.Concat(make([]bool, middle), piece[middle:])
		}
		if inLeft {
			to = middle
		} else {
			from = middle
		}
	}
}

func TestForkCutsByCells(t *testing.T) {
	random := rand.New(rand.NewSource(3))
	for range 2000 {
		l := randomLine(random)
		switch l.share() {
		case 0:
			expectForks(t, []forked{{l.stamp(), "", "", api.ErrNone}})
		case 1:
			expectForks(t, []forked{{l.stamp(), "", "", api.ErrDeep}})
		default:
			a, b := cut(l.piece)
			expectForks(t, []forked{{l.stamp(), line{a, l.count}.stamp(), line{b, l.count}.stamp(), api.OK}})
		}
	}
}

// TestForkToCells forks until each stamp has one cell.
func TestForkToCells(t *testing.T) {
	todo, cells := []string{"1;0"}, map[string]int{}
	for len(todo) > 0 {
		stamp := todo[0]
		todo = todo[1:]
		a, b, errno := Fork(stamp)
		if errno == api.ErrDeep {
			cells[stamp]++
			continue
		}
		if errno != api.OK {
			t.Fatalf("P4: Fork(%q) = %d", stamp, errno)
		}
		todo = append(todo, a, b)
	}
	if len(cells) != 256 {
		t.Errorf("P4: forks end with %d stamps, want 256", len(cells))
	}
}

func TestPeek(t *testing.T) {
	for stamp, want := range map[string]string{
		"1;0": "0;0", "0;3": "0;3", "(1,0);(1,0,2)": "0;(1,0,2)", deepID(8) + ";" + deepEV(8): "0;" + deepEV(8),
		"((0,1),1);(1099511627775,0,(0,1,0))": "0;(1099511627775,0,(0,1,0))",
	} {
		if s, errno := Peek(stamp); s != want || errno != api.OK {
			t.Errorf("P4: Peek(%q) = %q, %d, want %q", stamp, s, errno, want)
		}
	}
}

type joined struct {
	a, b, stamp string
	errno       api.Errno
}

// expectJoins asks both ways round.
func expectJoins(t *testing.T, cases []joined) {
	t.Helper()
	for _, c := range cases {
		if s, errno := Join(c.a, c.b); s != c.stamp || errno != c.errno {
			t.Errorf("P4: Join(%q, %q) = %q, %d, want %q, %d", c.a, c.b, s, errno, c.stamp, c.errno)
		}
		if s, errno := Join(c.b, c.a); s != c.stamp || errno != c.errno {
			t.Errorf("P4: Join(%q, %q) = %q, %d, want %q, %d", c.b, c.a, s, errno, c.stamp, c.errno)
		}
	}
}

func TestJoin(t *testing.T) {
	expectJoins(t, []joined{
		{"(1,0);(0,1,0)", "(0,1);(0,0,2)", "1;(1,0,1)", api.OK},
		{"1;0", "0;0", "1;0", api.OK}, {"0;0", "0;0", "0;0", api.OK}, {"0;3", "0;(0,0,9)", "0;(3,0,6)", api.OK},
		{"((1,0),(1,0));0", "((0,1),(0,1));4", "1;4", api.OK},
		{"((1,0),0);(0,(0,1,0),0)", "((0,1),0);(0,(0,0,1),0)", "(1,0);(0,1,0)", api.OK},
		{"((1,0),0);1", "(0,(0,1));(0,0,(1,0,1))", "((1,0),(0,1));(1,0,(0,0,1))", api.OK},
		{"0;(0,5,0)", "1;(0,0,5)", "1;5", api.OK},
		{"(1,0);1099511627776", "(0,1);(1,0,1099511627775)", "1;1099511627776", api.OK},
		{deepID(8) + ";0", "0;" + deepEV(8), deepID(8) + ";" + deepEV(8), api.OK},
	})
}

func TestJoinErrors(t *testing.T) {
	expectJoins(t, []joined{
		{"1;0", "1;0", "", api.ErrClash}, {"1;0", "(0,1);0", "", api.ErrClash}, {"(1,0);0", "((0,1),0);0", "", api.ErrClash},
		{"((1,0),(1,0));0", "((0,1),(1,0));0", "", api.ErrClash}, {deepID(8) + ";0", deepID(8) + ";9", "", api.ErrClash},
		{deepID(8) + ";0", "1;0", "", api.ErrClash},
		{"1;0", "1;(0,1,1)", "", api.ErrPlain}, {"1;0", "1;00", "", api.ErrText}, {"1;0", "1;(1,0,1099511627776)", "", api.ErrCount},
	})
}

func TestShare(t *testing.T) {
	for stamp, want := range map[string]int{
		"1;0": 256, "0;0": 0, "(1,0);0": 128, "(0,1);9": 128, "((1,0),(0,1));9": 128, "(1,(0,1));(0,1,0)": 192,
		"(0,((1,0),1));0": 96, deepID(8) + ";0": 1, deepID(7) + ";0": 2, "(1," + deepID(7) + ");0": 129,
	} {
		if n, errno := Share(stamp); n != want || errno != api.OK {
			t.Errorf("P4: Share(%q) = %d, %d, want %d", stamp, n, errno, want)
		}
	}
}

func TestPeekAndShareByCells(t *testing.T) {
	random := rand.New(rand.NewSource(4))
	for range 500 {
		l := randomLine(random)
		if n, errno := Share(l.stamp()); n != l.share() || errno != api.OK {
			t.Errorf("P4: Share(%q) = %d, %d, want %d", l.stamp(), n, errno, l.share())
		}
		want := "0;" + plainEV(l.count, 0)
		if s, errno := Peek(l.stamp()); s != want || errno != api.OK {
			t.Errorf("P4: Peek(%q) = %q, %d, want %q", l.stamp(), s, errno, want)
		}
	}
}

func TestJoinByCells(t *testing.T) {
	random := rand.New(rand.NewSource(5))
	for round := range 2000 {
		a, b := randomLine(random), randomLine(random)
		want := line{piece: make([]bool, 256), count: make([]int, 256)}
		clash := false
		for i := range want.piece {
			// Drawn pieces nearly always clash: of most rounds the second one
			// leaves to the first one what is its own.
			if round%4 > 0 && a.piece[i] {
				b.piece[i] = false
			}
			clash = clash || a.piece[i] && b.piece[i]
			want.piece[i] = a.piece[i] || b.piece[i]
			want.count[i] = max(a.count[i], b.count[i])
		}
		if clash {
			expectJoins(t, []joined{{a.stamp(), b.stamp(), "", api.ErrClash}})
		} else {
			expectJoins(t, []joined{{a.stamp(), b.stamp(), want.stamp(), api.OK}})
		}
	}
}
