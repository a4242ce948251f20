package sprigs

import (
	"math/rand"
	"strconv"
	"strings"
	"testing"

	"sprigs/api"
)

// line is a stamp laid out cell by cell: what is asked of stamps can be looked
// at there without a tree.
type line struct {
	piece []bool
	count []int
}

func (l line) stamp() string {
	return plainID(l.piece) + ";" + plainEV(l.count, 0)
}

// share counts the cells of the piece.
func (l line) share() int {
	n := 0
	for _, own := range l.piece {
		if own {
			n++
		}
	}
	return n
}

// layOut reads a stamp that is known to be one.
func layOut(t *testing.T, stamp string) line {
	t.Helper()
	if errno, place := Check(stamp); errno != api.OK {
		t.Fatalf("P4, P5: %q is no stamp: Check answers %d, %d", stamp, errno, place)
	}
	id, ev, _ := strings.Cut(stamp, ";")
	l := line{piece: make([]bool, 256), count: make([]int, 256)}
	layOutID(id, l.piece)
	layOutEV(ev, 0, l.count)
	return l
}

// layOutID and layOutEV fill the cells, and give the text that is left.
func layOutID(text string, cells []bool) string {
	if text[0] == '(' {
		half := len(cells) / 2
		rest := layOutID(text[1:], cells[:half])
		return layOutID(rest[1:], cells[half:])[1:]
	}
	for i := range cells {
		cells[i] = text[0] == '1'
	}
	return text[1:]
}

func layOutEV(text string, base int, cells []int) string {
	inner := strings.TrimPrefix(text, "(")
	digits := inner[:len(inner)-len(strings.TrimLeft(inner, "0123456789"))]
	num, _ := strconv.Atoi(digits)
	rest := inner[len(digits):]
	if inner != text {
		half := len(cells) / 2
		rest = layOutEV(rest[1:], base+num, cells[:half])
		return layOutEV(rest[1:], base+num, cells[half:])[1:]
	}
	for i := range cells {
		cells[i] = base + num
	}
	return rest
}

// scatter gives runs of cells values, halving the row as chance has it, so
// that trees of all shapes come of it.
func scatter[V any](random *rand.Rand, cells []V, draw func() V) {
	if half := len(cells) / 2; half > 0 && random.Intn(5) > 0 {
		scatter(random, cells[:half], draw)
		scatter(random, cells[half:], draw)
		return
	}
	value := draw()
	for i := range cells {
		cells[i] = value
	}
}

// randomLine holds few cells or many, and has low numbers or such as reach
// the bound.
func randomLine(random *rand.Rand) line {
	l := line{piece: make([]bool, 256), count: make([]int, 256)}
	rare := 1 + random.Intn(6)
	scatter(random, l.piece, func() bool { return random.Intn(rare) == 0 })
	spread, base := 1+random.Intn(4), random.Intn(3)
	if random.Intn(3) == 0 {
		base = api.MaxCount - spread + 1
	}
	scatter(random, l.count, func() int { return base + random.Intn(spread) })
	return l
}

func TestLinesAreLaidOutAsTheyAreWritten(t *testing.T) {
	random := rand.New(rand.NewSource(2))
	for range 200 {
		stamp := randomLine(random).stamp()
		if again := layOut(t, stamp).stamp(); again != stamp {
			t.Fatalf("%q is laid out as %q", stamp, again)
		}
	}
}
