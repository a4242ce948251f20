package packed

import (
	"testing"

	"sprigs/tree"
)

func TestWriteTakesTheLowestOut(t *testing.T) {
	low, high := tree.Leaf[int64](4), tree.Leaf[int64](6)
	id := tree.Pair(tree.Leaf(true), tree.Leaf(false))
	ev := tree.Pair(tree.Pair(high, low), high)
	// 1 01 00, then 1 00101, then 11 0011 01, then 0011: (1,0);(4,(0,2,0),2)
	want := "\xa4\xb9\xa6"
	if got := Write(tree.Stamp{ID: id, EV: ev}); got != want {
		t.Errorf("Write = %x, want %x", got, want)
	}
}

func TestGammas(t *testing.T) {
	for num, want := range map[int64]string{
		0: "\x80", 1: "\x40", 2: "\x60", 3: "\x20", 6: "\x38", 7: "\x10", 14: "\x1e", 15: "\x08\x00",
		1<<40 - 1: "\x00\x00\x00\x00\x00\x80\x00\x00\x00\x00\x00", 1 << 40: "\x00\x00\x00\x00\x00\x80\x00\x00\x00\x00\x80",
	} {
		var w writer
		w.gamma(num)
		if got := string(w.bytes); got != want {
			t.Errorf("gamma(%d) wrote %x, want %x", num, got, want)
		}
		r := reader{code: want}
		if got := r.gamma(); got != num || r.at != w.written {
			t.Errorf("gamma read %d from %d bits of %x, want %d from %d", got, r.at, want, num, w.written)
		}
	}
}

func TestBitsComeBack(t *testing.T) {
	var w writer
	for at := range 100 {
		w.bit(at%3 == 0)
	}
	r := reader{code: string(w.bytes)}
	if len(r.code) != 13 {
		t.Errorf("100 bits are %d bytes", len(r.code))
	}
	for at := range 8 * 13 {
		if got, want := r.bit(), at < 100 && at%3 == 0; got != want {
			t.Errorf("bit %d is %v", at, got)
		}
	}
}
