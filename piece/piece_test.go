package piece

import (
	"testing"

	"sprigs/text"
	"sprigs/tree"
)

func read(id string) *tree.ID {
	return text.Read(id + ";0").ID
}

func write(id *tree.ID) string {
	stamp := text.Write(tree.Stamp{ID: id, EV: tree.Leaf[int64](0)})
	return stamp[:len(stamp)-len(";0")]
}

func TestCutIsUndoneByJoin(t *testing.T) {
	for _, id := range []string{"1", "(0,1)", "(1,0)", "((0,1),1)", "(0,((1,0),(0,1)))", "((1,(0,1)),(1,0))"} {
		a, b := Cut(read(id))
		if Clash(a, b) {
			t.Errorf("Cut(%s) = %s, %s, which clash", id, write(a), write(b))
		}
		if Share(a) == 0 || Share(b) == 0 || Share(a)+Share(b) != Share(read(id)) {
			t.Errorf("Cut(%s) = %s, %s, with the shares %d and %d", id, write(a), write(b), Share(a), Share(b))
		}
		if whole := write(Join(a, b)); whole != id {
			t.Errorf("Cut(%s) = %s, %s, which make %s", id, write(a), write(b), whole)
		}
	}
}

func TestClash(t *testing.T) {
	for _, c := range []struct {
		a, b string
		want bool
	}{
		{"0", "1", false}, {"1", "1", true}, {"0", "0", false}, {"(1,0)", "(0,1)", false}, {"(1,0)", "1", true},
		{"((1,0),0)", "((0,1),1)", false}, {"((1,0),1)", "((0,1),(0,1))", true}, {"(0,1)", "(0,(0,1))", true},
	} {
		if Clash(read(c.a), read(c.b)) != c.want || Clash(read(c.b), read(c.a)) != c.want {
			t.Errorf("Clash(%s, %s), either way round: not %v", c.a, c.b, c.want)
		}
	}
}
