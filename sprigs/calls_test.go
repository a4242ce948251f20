package sprigs

import (
	"fmt"
	"strings"
	"sync"
	"testing"

	"sprigs/api"
)

// ofOne and ofTwo are the calls that take stamps; the first result tells
// whether all results but the error are 0, false or empty.
func ofOne(call string, stamp string) (bool, api.Errno) {
	switch call {
	case "Fork":
		a, b, errno := Fork(stamp)
		return a == "" && b == "", errno
	case "Peek":
		s, errno := Peek(stamp)
		return s == "", errno
	case "Share":
		n, errno := Share(stamp)
		return n == 0, errno
	case "Event":
		s, errno := Event(stamp)
		return s == "", errno
	default:
		s, errno := Encode(stamp)
		return s == "", errno
	}
}

func ofTwo(call string, a, b string) (bool, api.Errno) {
	if call == "Join" {
		s, errno := Join(a, b)
		return s == "", errno
	}
	is, errno := Leq(a, b)
	return !is, errno
}

func callsOfOne() []string { return []string{"Fork", "Peek", "Share", "Event", "Encode"} }
func callsOfTwo() []string { return []string{"Join", "Leq"} }

// wrongStamps has one for each error of Check.
func wrongStamps() []string {
	return []string{strings.Repeat("1", api.MaxText+1), "1;x", "1;(1099511627776,0,1)", "(1,1);0"}
}

func TestCallsAnswerErrorsOfCheck(t *testing.T) {
	for _, wrong := range wrongStamps() {
		want, _ := Check(wrong)
		for _, call := range callsOfOne() {
			if empty, errno := ofOne(call, wrong); errno != want || !empty {
				t.Errorf("P3, P1: %s(%.30q): %d (empty: %v), want %d", call, wrong, errno, empty, want)
			}
		}
		for _, call := range callsOfTwo() {
			if empty, errno := ofTwo(call, wrong, "0;0"); errno != want || !empty {
				t.Errorf("P3, P1: %s(%.30q, 0;0): %d (empty: %v), want %d", call, wrong, errno, empty, want)
			}
			if empty, errno := ofTwo(call, "0;0", wrong); errno != want || !empty {
				t.Errorf("P3, P1: %s(0;0, %.30q): %d (empty: %v), want %d", call, wrong, errno, empty, want)
			}
		}
	}
}

func TestFirstStampsErrorComesFirst(t *testing.T) {
	for _, a := range wrongStamps() {
		want, _ := Check(a)
		for _, b := range wrongStamps() {
			for _, call := range callsOfTwo() {
				if _, errno := ofTwo(call, a, b); errno != want {
					t.Errorf("P1: %s(%.30q, %.30q): %d, want %d", call, a, b, errno, want)
				}
			}
		}
	}
}

// TestAllCallsEnd fails by a panic, if a call panics.
func TestAllCallsEnd(t *testing.T) {
	stamp := "((0,1),(1,(0,1)));(12,(0,(3,0,1),0),(7,0,1099511627))"
	for place := range len(stamp) {
		for b := range 256 {
			changed := stamp[:place] + string([]byte{byte(b)}) + stamp[place+1:]
			errno, at := Check(changed)
			if !strings.Contains("0123456789(),;", changed[place:place+1]) && (errno != api.ErrText || at != place) {
				t.Errorf("P3: Check(%q) = %d, %d, want ErrText, %d", changed, errno, at, place)
			}
			for _, call := range callsOfOne() {
				ofOne(call, changed)
			}
			for _, call := range callsOfTwo() {
				ofTwo(call, changed, stamp)
				ofTwo(call, stamp, changed)
			}
			Decode(changed)
		}
	}
}

// answers writes down what all calls answer to a text, and to it and another.
func answers(text, other string) string {
	errno, place := Check(text)
	a, b, forked := Fork(text)
	peek, peeked := Peek(text)
	share, shared := Share(text)
	event, counted := Event(text)
	code, encoded := Encode(text)
	stamp, decoded, at := Decode(text)
	join, joined := Join(text, other)
	leq, compared := Leq(text, other)
	return fmt.Sprint([]any{errno, place, a, b, forked, peek, peeked, share, shared, event, counted, code, encoded, stamp, decoded, at, join, joined, leq, compared})
}

// TestCallsHangOnTheirArgumentsAlone asks in another order, and at the same
// time, and gets the same.
func TestCallsHangOnTheirArgumentsAlone(t *testing.T) {
	texts := append(wrongStamps(), "1;0", "(1,0);(3,0,4)", "(0,(1,0));(0,(0,2,0),1)", "((1,0),(0,1));(1,0,(0,0,5))", "1;(0,0,0)", "1;01", "", "\x50", "\x8d\x24", "\xaa", "\x40")
	other := func(i int) string { return texts[(i+1)%len(texts)] }
	var first []string
	for i, text := range texts {
		first = append(first, answers(text, other(i)))
	}
	var all sync.WaitGroup
	for start := range texts {
		all.Go(func() {
			for n := range texts {
				i := (start + n) % len(texts)
				if got := answers(texts[i], other(i)); got != first[i] {
					t.Errorf("P2: to %.30q: %s, and %s at first", texts[i], got, first[i])
				}
			}
		})
	}
	all.Wait()
}
