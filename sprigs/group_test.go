package sprigs

import (
	"math/rand"
	"slices"
	"testing"

	"sprigs/api"
)

// member is a stamp, and the Events ahead of it.
type member struct {
	stamp string
	past  []int
}

// group has the stamps that may be used, and all that there ever were.
type group struct {
	t      *testing.T
	random *rand.Rand
	alive  []member
	ever   []member
	events int
}

func newGroup(t *testing.T, seed int64) *group {
	whole := member{stamp: "1;0"}
	return &group{t: t, random: rand.New(rand.NewSource(seed)), alive: []member{whole}, ever: []member{whole}}
}

// take draws a stamp and uses it up.
func (g *group) take() member {
	at := g.random.Intn(len(g.alive))
	m := g.alive[at]
	g.alive = slices.Delete(g.alive, at, at+1)
	return m
}

func (g *group) add(members ...member) {
	g.alive = append(g.alive, members...)
	g.ever = append(g.ever, members...)
}

func (g *group) fork() {
	m := g.take()
	a, b, errno := Fork(m.stamp)
	if errno != api.OK {
		g.expectErrno("Fork", m, errno, api.ErrNone, api.ErrDeep)
		g.alive = append(g.alive, m)
		return
	}
	g.add(member{a, m.past}, member{b, m.past})
}

func (g *group) peek() {
	m := g.take()
	s, errno := Peek(m.stamp)
	g.expectErrno("Peek", m, errno, api.OK)
	g.alive = append(g.alive, m)
	g.add(member{s, m.past})
}

func (g *group) event() {
	m := g.take()
	s, errno := Event(m.stamp)
	if errno != api.OK {
		g.expectErrno("Event", m, errno, api.ErrNone)
		g.alive = append(g.alive, m)
		return
	}
	g.events++
	g.add(member{s, append(slices.Clone(m.past), g.events)})
}

func (g *group) join() {
	if len(g.alive) < 2 {
		return
	}
	a, b := g.take(), g.take()
	s, errno := Join(a.stamp, b.stamp)
	g.expectErrno("Join", a, errno, api.OK)
	g.add(member{s, append(slices.Clone(a.past), b.past...)})
}

func (g *group) expectErrno(call string, m member, errno api.Errno, may ...api.Errno) {
	g.t.Helper()
	if !slices.Contains(may, errno) {
		g.t.Fatalf("P8: %s of %q: %d", call, m.stamp, errno)
	}
}

// expectOrder holds all that there ever were against one another.
func (g *group) expectOrder() {
	g.t.Helper()
	for _, a := range g.ever {
		for _, b := range g.ever {
			want := true
			for _, event := range a.past {
				want = want && slices.Contains(b.past, event)
			}
			if is, errno := Leq(a.stamp, b.stamp); is != want || errno != api.OK {
				g.t.Fatalf("P8: Leq(%q, %q) = %v, %d, want %v", a.stamp, b.stamp, is, errno, want)
			}
		}
	}
}

// expectShares looks that each cell has just one holder.
func (g *group) expectShares() {
	g.t.Helper()
	holders, sum := make([]int, 256), 0
	for _, m := range g.alive {
		for i, own := range layOut(g.t, m.stamp).piece {
			if own {
				holders[i]++
			}
		}
		n, _ := Share(m.stamp)
		sum += n
	}
	if sum != 256 || slices.Max(holders) != 1 {
		g.t.Fatalf("P8: the Shares are %d together, and up to %d hold a cell", sum, slices.Max(holders))
	}
}

func TestGroupsTellWhatWasAhead(t *testing.T) {
	for seed := range 30 {
		g := newGroup(t, int64(seed))
		// Some groups fork more, and get deep; some join more, and stay small.
		steps := []func(){g.fork, g.event, g.event, g.join, g.peek}
		if seed%3 == 0 {
			steps = append(steps, g.fork, g.fork)
		}
		if seed%3 == 1 {
			steps = append(steps, g.join)
		}
		for range 80 {
			steps[g.random.Intn(len(steps))]()
			g.expectShares()
		}
		g.expectOrder()
	}
}

// TestAllJoinedIsTheWhole: what was forked comes together again.
func TestAllJoinedIsTheWhole(t *testing.T) {
	g := newGroup(t, 1)
	for range 60 {
		g.fork()
	}
	for range 40 {
		g.event()
	}
	for len(g.alive) > 1 {
		g.join()
	}
	last := g.alive[0].stamp
	if n, errno := Share(last); n != 256 || errno != api.OK || len(g.alive[0].past) != g.events {
		t.Errorf("P8: Share(%q) = %d, %d, want 256", last, n, errno)
	}
	g.expectOrder()
}
