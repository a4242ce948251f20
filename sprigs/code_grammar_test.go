package sprigs

import (
	"fmt"
	"math/rand"
	"sort"
	"strings"
	"testing"

	"sprigs/api"
)

// codeRules are those of P7, but for the bound of numbers: a an ID and A an EV
// of the whole line, b and B of a half of it, and so on to i and I of a cell;
// n a GAMMA, m a bit of either kind.
func codeRules(symbol byte) []string {
	halves := strings.Repeat(string([]byte{symbol + 1}), 2)
	switch {
	case symbol == 'i':
		return []string{"0m"}
	case 'a' <= symbol && symbol < 'i':
		return []string{"0m", "1" + halves}
	case symbol == 'I':
		return []string{"0n"}
	case 'A' <= symbol && symbol < 'I':
		return []string{"0n", "1n" + halves}
	case symbol == 'n':
		return []string{"1", "0nm"}
	case symbol == 'm':
		return []string{"0", "1"}
	}
	return nil
}

// firstWrong gives the number of the byte that Decode is to tell with ErrText,
// or -1, if the bits are a code. No code goes on as another one: so a code
// that is whole ends where nothing further comes of the rules.
func firstWrong(bits string) int {
	grammar := rules(codeRules)
	end := sort.Search(len(bits), func(at int) bool {
		return !grammar.derive(bits[:at+1], "aA", false)
	})
	if !grammar.derive(bits[:end], "aA", true) {
		return end / 8
	}
	return firstWrongBehind(bits, end)
}

// firstWrongBehind looks at what follows where a code ends.
func firstWrongBehind(bits string, end int) int {
	filled := (end + 7) / 8 * 8
	if strings.Contains(bits[end:filled], "1") {
		return end / 8
	}
	if filled < len(bits) {
		return filled / 8
	}
	return -1
}

// expectByCodeGrammar takes bits of whole bytes.
func expectByCodeGrammar(t *testing.T, bits string) {
	t.Helper()
	code := bytesOf(bits)
	stamp, errno, place := Decode(code)
	want := firstWrong(bits)
	switch {
	case want >= 0 && (stamp != "" || errno != api.ErrText || place != want):
		t.Errorf("P7: Decode(%x) = %q, %d, %d, want ErrText, %d", code, stamp, errno, place, want)
	case want < 0 && errno == api.OK:
		expectCode(t, stamp, code)
	case want < 0 && (stamp != "" || errno != api.ErrPlain || place != 0):
		t.Errorf("P7: Decode(%x) = %q, %d, %d, but the bits are a code", code, stamp, errno, place)
	}
}

// TestDecodeByGrammar asks for all codes of up to two bytes, and for many that
// are longer.
func TestDecodeByGrammar(t *testing.T) {
	for value := range 1 << 8 {
		expectByCodeGrammar(t, fmt.Sprintf("%08b", value))
	}
	for value := range 1 << 16 {
		expectByCodeGrammar(t, fmt.Sprintf("%016b", value))
	}
	for _, start := range []string{"1111111101", "0111111111111111", "0100001", "1010011001", "011101011100", "101001111110101011"} {
		for value := range 1 << 12 {
			bits := start + fmt.Sprintf("%012b", value)
			expectByCodeGrammar(t, bits+zeros((8-len(bits)%8)%8))
		}
	}
}

// TestDecodeOfChangedCodes turns each bit of a code round: what still is a
// code must be that of the stamp that comes of it.
func TestDecodeOfChangedCodes(t *testing.T) {
	bits := bitsOf("((0,1),(1,(0,1)));(12,(0,(3,0,1),0),(1099511627763,0,(0,0,(0,1,0))))")
	met := map[api.Errno]int{}
	for at := range bits {
		code := bytesOf(bits[:at] + string(bits[at]^1) + bits[at+1:])
		stamp, errno, place := Decode(code)
		met[errno]++
		lowest, highest := 0, 0
		if errno == api.ErrText {
			lowest, highest = at/8, len(code)
		}
		if place < lowest || place > highest || errno != api.OK && stamp != "" {
			t.Errorf("P7: Decode(%x) = %q, %d, %d, where byte %d was changed", code, stamp, errno, place, at/8)
		}
		if errno == api.OK {
			expectCode(t, stamp, code)
		}
	}
	for _, errno := range []api.Errno{api.OK, api.ErrText, api.ErrCount, api.ErrPlain} {
		if met[errno] == 0 {
			t.Errorf("P7: Decode never answers %d: %v", errno, met)
		}
	}
}

// TestDecodeOfDrawnBytes: what is a code comes back; all else is refused, at a
// byte that it has or at its end.
func TestDecodeOfDrawnBytes(t *testing.T) {
	random := rand.New(rand.NewSource(14))
	for range 20000 {
		code := make([]byte, random.Intn(40))
		for at := range code {
			// Many bits are set: rows of 0s would end most codes early.
			code[at] = byte(random.Intn(256) | random.Intn(256))
		}
		stamp, errno, place := Decode(string(code))
		if errno == api.OK {
			expectCode(t, stamp, string(code))
		} else if stamp != "" || place > len(code) || errno != api.ErrText && place != 0 {
			t.Errorf("P7: Decode(%x) = %q, %d, %d", code, stamp, errno, place)
		}
	}
}
