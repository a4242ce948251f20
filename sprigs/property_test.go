package sprigs

import (
	"math/rand"
	"slices"
	"strconv"
	"strings"
	"testing"

	"sprigs/api"
)

// textRules are those of the section Texts, but for the bounds of depth and of
// numbers: S a stamp, I an ID, E an EV, N a NUM, M its digits behind the first.
func textRules(symbol byte) []string {
	switch symbol {
	case 'S':
		return []string{"I;E"}
	case 'I':
		return []string{"0", "1", "(I,I)"}
	case 'E':
		return []string{"N", "(N,E,E)"}
	case 'N':
		return []string{"0", "1M", "2M"}
	case 'M':
		return []string{"", "0M", "1M", "2M"}
	}
	return nil
}

// rules give what may stand for a symbol; nothing, if it stands for itself.
type rules func(symbol byte) []string

// derive tells whether a text comes of symbols (whole), or is the beginning
// of one that does.
func (r rules) derive(text, symbols string, whole bool) bool {
	if text == "" && !whole {
		return true
	}
	if symbols == "" {
		return text == ""
	}
	if choices := r(symbols[0]); choices != nil {
		return slices.ContainsFunc(choices, func(choice string) bool {
			return r.derive(text, choice+symbols[1:], whole)
		})
	}
	return text != "" && text[0] == symbols[0] && r.derive(text[1:], symbols[1:], whole)
}

func expectByGrammar(t *testing.T, text string) {
	t.Helper()
	errno, place := Check(text)
	grammar := rules(textRules)
	isStamp := grammar.derive(text, "S", true)
	if errno != api.ErrText {
		if !isStamp {
			t.Errorf("P3: Check(%q) = %d, %d, but that is no stamp", text, errno, place)
		}
		return
	}
	if isStamp || !grammar.derive(text[:place], "S", false) || place < len(text) && grammar.derive(text[:place+1], "S", false) {
		t.Errorf("P3: Check(%q) = ErrText, %d, which is not the first wrong byte", text, place)
	}
}

func TestCheckByGrammar(t *testing.T) {
	var lengthen func(text string, more int)
	lengthen = func(text string, more int) {
		expectByGrammar(t, text)
		if more == 0 {
			return
		}
		for _, b := range "012(),;x" {
			lengthen(text+string(b), more-1)
		}
	}
	for _, start := range []string{"", "(1,(", "1;(0,", "(0,1);(1,0,", "1;(0,(2,0,1)"} {
		lengthen(start, 5)
	}
}

// plainID writes a piece as the section Texts asks for, from its cells.
func plainID(cells []bool) string {
	half := len(cells) / 2
	if !slices.Contains(cells, true) {
		return "0"
	}
	if !slices.Contains(cells, false) {
		return "1"
	}
	return "(" + plainID(cells[:half]) + "," + plainID(cells[half:]) + ")"
}

// plainEV writes a count, less base, as the section Texts asks for.
func plainEV(cells []int, base int) string {
	least, half := slices.Min(cells), len(cells)/2
	num := strconv.Itoa(least - base)
	if slices.Max(cells) == least {
		return num
	}
	return "(" + num + "," + plainEV(cells[:half], least) + "," + plainEV(cells[half:], least) + ")"
}

// allIDs and allEVs hand on each tree up to a depth with its cells, plain or
// not; NUMs go from 0 to 2.
func allIDs(depth int, hand func(text string, cells []bool)) {
	row := 1 << depth
	hand("0", make([]bool, row))
	hand("1", slices.Repeat([]bool{true}, row))
	if depth == 0 {
		return
	}
	allIDs(depth-1, func(left string, leftCells []bool) {
		allIDs(depth-1, func(right string, rightCells []bool) {
			hand("("+left+","+right+")", slices.Concat(leftCells, rightCells))
		})
	})
}

func allEVs(depth, base int, hand func(text string, cells []int)) {
	for num := range 3 {
		digit := strconv.Itoa(num)
		hand(digit, slices.Repeat([]int{base + num}, 1<<depth))
		if depth == 0 {
			continue
		}
		allEVs(depth-1, base+num, func(left string, leftCells []int) {
			allEVs(depth-1, base+num, func(right string, rightCells []int) {
				hand("("+digit+","+left+","+right+")", slices.Concat(leftCells, rightCells))
			})
		})
	}
}

func TestCheckTakesJustOneIDForAPiece(t *testing.T) {
	allIDs(3, func(text string, cells []bool) {
		want, at := api.OK, 0
		if text != plainID(cells) {
			want, at = api.ErrPlain, len(text)
		}
		for _, pair := range []string{"(0,0)", "(1,1)"} {
			if found := strings.Index(text, pair); found >= 0 {
				at = min(at, found)
			}
		}
		expectChecks(t, []checked{{text + ";0", want, at}})
	})
}

func TestCheckTakesJustOneEVForACount(t *testing.T) {
	allEVs(2, 0, func(text string, cells []int) {
		want := api.OK
		if text != plainEV(cells, 0) {
			want = api.ErrPlain
		}
		if errno, _ := Check("0;" + text); errno != want {
			t.Errorf("P3: Check(0;%s) = %d, want %d", text, errno, want)
		}
	})
}

func TestCheckTakesStampsOfAllCells(t *testing.T) {
	random := rand.New(rand.NewSource(1))
	for range 300 {
		piece, count := make([]bool, 256), make([]int, 256)
		base := random.Intn(api.MaxCount)
		for i := range count {
			piece[i] = random.Intn(2) == 1
			count[i] = base + random.Intn(api.MaxCount+1-base)
		}
		count[random.Intn(256)] = api.MaxCount
		stamp := plainID(piece) + ";" + plainEV(count, 0)
		expectChecks(t, []checked{{stamp, api.OK, 0}})
	}
}
