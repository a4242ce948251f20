package sprigs

import (
	"math/rand"
	"testing"

	"sprigs/api"
)

func expectLeq(t *testing.T, a, b string, want bool) {
	t.Helper()
	if is, errno := Leq(a, b); is != want || errno != api.OK {
		t.Errorf("P6: Leq(%q, %q) = %v, %d, want %v", a, b, is, errno, want)
	}
}

func TestLeq(t *testing.T) {
	for _, c := range []struct {
		a, b   string
		is, si bool // and the other way round
	}{
		{"1;0", "1;0", true, true}, {"1;0", "0;0", true, true}, {"1;0", "0;1", true, false}, {"0;9", "1;10", true, false},
		{"(1,0);(0,1,0)", "(0,1);(0,0,2)", false, false}, {"(1,0);(0,1,0)", "(0,1);(0,1,0)", true, true},
		{"1;(0,1,0)", "1;1", true, false}, {"1;1", "1;(1,0,1)", true, false}, {"1;(2,0,1)", "1;(2,3,0)", false, false},
		{"1;(0,(3,0,1),0)", "1;(0,(3,0,2),0)", true, false}, {"1;(0,(3,0,1),0)", "1;(2,(0,2,0),0)", false, false},
		{"0;" + deepEV(8), "0;1", true, false}, {"0;" + deepEV(8), "0;0", false, true}, {"0;" + deepEV(8), "0;" + deepEV(7), true, false},
		{"0;1099511627775", "0;1099511627776", true, false}, {"0;(0,0,1099511627776)", "0;1099511627775", false, false},
	} {
		expectLeq(t, c.a, c.b, c.is)
		expectLeq(t, c.b, c.a, c.si)
	}
}

func TestLeqByCells(t *testing.T) {
	random := rand.New(rand.NewSource(6))
	for round := range 2000 {
		a, b := randomLine(random), randomLine(random)
		want := true
		for i := range a.count {
			// Drawn counts are nearly never ordered: of most rounds the second
			// one is the greater one, but for one cell now and then.
			if round%4 > 0 {
				b.count[i] = max(a.count[i], b.count[i])
			}
		}
		if at := random.Intn(256); round%4 == 1 && a.count[at] > 0 {
			b.count[at] = a.count[at] - 1
		}
		for i := range a.count {
			want = want && a.count[i] <= b.count[i]
		}
		expectLeq(t, a.stamp(), b.stamp(), want)
	}
}
