package sprigs

import (
	"math/rand"
	"slices"
	"strconv"
	"strings"
	"testing"

	"sprigs/api"
)

// gamma and bitsOf write codes as P7 says, with the digits 0 and 1; bitsOf
// takes texts that are not plain, too.
func gamma(num int) string {
	digits := strconv.FormatInt(int64(num)+1, 2)
	return strings.Repeat("0", len(digits)-1) + digits
}

func bitsOf(stamp string) string {
	id, ev, _ := strings.Cut(stamp, ";")
	bits := strings.NewReplacer("0", "00", "1", "01", "(", "1", ",", "", ")", "").Replace(id)
	for _, part := range strings.Split(ev, ",") {
		num := strings.Trim(part, "()")
		value, _ := strconv.Atoi(num)
		bits += strconv.Itoa(strings.Count(part, "(")) + gamma(value)
	}
	return bits
}

// bytesOf packs digits, and fills the last byte up.
func bytesOf(bits string) string {
	bits += strings.Repeat("0", (8-len(bits)%8)%8)
	var bytes []byte
	for octet := range slices.Chunk([]byte(bits), 8) {
		value, _ := strconv.ParseUint(string(octet), 2, 8)
		bytes = append(bytes, byte(value))
	}
	return string(bytes)
}

// expectCode wants a stamp and its code to come of one another.
func expectCode(t *testing.T, stamp, code string) {
	t.Helper()
	if got, errno := Encode(stamp); got != code || errno != api.OK {
		t.Errorf("P7: Encode(%q) = %x, %d, want %x", stamp, got, errno, code)
	}
	if got, errno, place := Decode(code); got != stamp || errno != api.OK || place != 0 {
		t.Errorf("P7: Decode(%x) = %q, %d, %d, want %q", code, got, errno, place, stamp)
	}
}

// refused is a code by its digits, and what Decode is to answer.
type refused struct {
	bits  string
	errno api.Errno
	place int
}

func expectRefused(t *testing.T, cases []refused) {
	t.Helper()
	for _, c := range cases {
		if stamp, errno, place := Decode(bytesOf(c.bits)); stamp != "" || errno != c.errno || place != c.place {
			t.Errorf("P7: Decode of the bits %.200s = %q, %d, %d, want %d, %d", c.bits, stamp, errno, place, c.errno, c.place)
		}
	}
}

func zeros(n int) string { return strings.Repeat("0", n) }
func ones(n int) string  { return strings.Repeat("1", n) }

func TestCodesByHand(t *testing.T) {
	for stamp, code := range map[string]string{
		"1;0": "\x50", "0;0": "\x10", "1;1": "\x48", "1;2": "\x4c", "1;3": "\x44", "0;14": "\x03\xc0",
		"(1,0);0": "\xa2", "(0,1);(1,0,1)": "\x8d\x24", "((0,1),(1,0));0": "\xc6\x88",
		"1;(0,(0,0,1),0)": "\x7d\x24", "0;1099511627776": "\x00\x00\x00\x00\x00\x10\x00\x00\x00\x00\x10",
	} {
		expectCode(t, stamp, code)
	}
}

func TestCodesOfNumbers(t *testing.T) {
	for digits := range 40 {
		for _, num := range []int{1<<digits - 1, 1 << digits, 1<<(digits+1) - 2} {
			for _, stamp := range []string{"1;N", "(0,1);N", "0;(N,0,1)", "0;(0,N1,0)"} {
				written := strings.Replace(stamp, "N1", strconv.Itoa(num+1), 1)
				written = strings.Replace(written, "N", strconv.Itoa(num), 1)
				expectCode(t, written, bytesOf(bitsOf(written)))
			}
		}
	}
	for _, stamp := range []string{"1;1099511627775", "1;1099511627776", "0;(1099511627775,0,1)", "0;(0,0,1099511627776)", "1;(0,1099511627776,(0,1,0))"} {
		expectCode(t, stamp, bytesOf(bitsOf(stamp)))
	}
}

func TestCodesOfDeepStamps(t *testing.T) {
	for depth := range 9 {
		for other := range 9 {
			stamp := deepID(depth) + ";" + deepEV(other)
			expectCode(t, stamp, bytesOf(bitsOf(stamp)))
		}
	}
}

func TestCodesByCells(t *testing.T) {
	random := rand.New(rand.NewSource(11))
	for range 2000 {
		stamp := randomLine(random).stamp()
		expectCode(t, stamp, bytesOf(bitsOf(stamp)))
	}
}

// TestCodesOfTheGreatestStamps: all cells differ from those beside them.
func TestCodesOfTheGreatestStamps(t *testing.T) {
	random := rand.New(rand.NewSource(12))
	for range 20 {
		l := line{piece: make([]bool, 256), count: make([]int, 256)}
		for i := range l.count {
			l.piece[i] = i%2 == random.Intn(2)
			l.count[i] = random.Intn(api.MaxCount + 1)
		}
		expectCode(t, l.stamp(), bytesOf(bitsOf(l.stamp())))
	}
}

func TestEncodeErrors(t *testing.T) {
	for stamp, want := range map[string]api.Errno{
		strings.Repeat("1", 20001): api.ErrLong, "": api.ErrText, "1;": api.ErrText, "1;01": api.ErrText, "\x50": api.ErrText,
		deepID(9) + ";0": api.ErrText, "1;1099511627777": api.ErrText,
		"1;(1099511627776,0,1)": api.ErrCount, "(1,1);(1,0,1099511627776)": api.ErrCount,
		"(1,1);0": api.ErrPlain, "1;(0,0,0)": api.ErrPlain, "1;(1,1,2)": api.ErrPlain,
	} {
		if code, errno := Encode(stamp); code != "" || errno != want {
			t.Errorf("P7: Encode(%.30q) = %x, %d, want %d", stamp, code, errno, want)
		}
	}
}

func TestDecodeLength(t *testing.T) {
	for code, want := range map[string]api.Errno{
		strings.Repeat("\x00", 20001): api.ErrLong, "\x50" + strings.Repeat("\x00", 20000): api.ErrLong, strings.Repeat("\xff", 100000): api.ErrLong,
	} {
		if stamp, errno, place := Decode(code); stamp != "" || errno != want || place != 0 {
			t.Errorf("P7: Decode(%.10x..) = %q, %d, %d, want %d, 0", code, stamp, errno, place, want)
		}
	}
	expectRefused(t, []refused{
		{"01" + "01" + "0000" + zeros(8*19999), api.ErrText, 1},
		{ones(8 * 20000), api.ErrText, 1},
		{zeros(8 * 20000), api.ErrText, 5},
	})
}

func TestDecodeNumbersTooGreat(t *testing.T) {
	most := zeros(40) + "1" + zeros(39) // and one digit more
	expectRefused(t, []refused{
		// The 41st 0 has 43 bits ahead of it; 46; 47; 48: a new byte.
		{"01" + "0" + zeros(41) + ones(60), api.ErrText, 5},
		{"01" + "0" + zeros(400), api.ErrText, 5},
		{"10001" + "1" + zeros(41) + ones(60), api.ErrText, 5},
		{"01" + "11" + "01" + "0" + zeros(41) + ones(60), api.ErrText, 5},
		{"10001" + "11" + "0" + zeros(41) + ones(60), api.ErrText, 6},
		// There are 40, and the last bit has 83 ahead of it; 87; 88: a new byte.
		{"01" + "0" + zeros(40) + "1" + zeros(38) + "10", api.ErrText, 10},
		{"01" + "0" + zeros(40) + "1" + zeros(38) + "11", api.ErrText, 10},
		{"01" + "0" + zeros(40) + "11" + zeros(39), api.ErrText, 10},
		{"01" + "0" + zeros(40) + ones(41), api.ErrText, 10},
		{"01" + "1" + zeros(40) + ones(41) + ones(30), api.ErrText, 10},
		{"01" + "11" + "01" + "0" + zeros(40) + ones(41) + ones(30), api.ErrText, 10},
		{"10001" + "11" + "0" + zeros(40) + ones(41) + ones(30), api.ErrText, 11},
		// The last bit does not come.
		{"01" + "0" + zeros(40) + ones(37), api.ErrText, 10},
		{"01" + "0" + zeros(37), api.ErrText, 5},
		{"10001" + "11" + "0" + zeros(40) + ones(40), api.ErrText, 11},
		// What is not too great goes on.
		{"01" + "0" + most + "1" + "1", api.ErrText, 10},
		{"01" + "1" + most + "1" + "01" + "01", api.ErrPlain, 0},
		{"01" + "1" + most + "1" + "01" + "0010", api.ErrCount, 0},
	})
}

func TestDecodeBracketsTooMany(t *testing.T) {
	expectRefused(t, []refused{
		{ones(9), api.ErrText, 1}, {ones(16), api.ErrText, 1}, {ones(9) + zeros(40), api.ErrText, 1},
		// The 1 of the ninth has 24 bits ahead of it; 27; 22.
		{bitsOf(deepID(9) + ";0"), api.ErrText, 3},
		{bitsOf("((0,1)," + deepID(8) + ");0"), api.ErrText, 3},
		{bitsOf("(" + deepID(8) + ",0);0"), api.ErrText, 2},
		// 34; 18; 21; 20; 24.
		{bitsOf("1;" + deepEV(9)), api.ErrText, 4},
		{"01" + strings.Repeat("11", 8) + "1", api.ErrText, 2},
		{"10100" + strings.Repeat("11", 8) + "1", api.ErrText, 2},
		{"01" + strings.Repeat("11", 7) + "1010" + "1", api.ErrText, 2},
		{"1101" + "00" + "01" + strings.Repeat("11", 8) + "1", api.ErrText, 3},
	})
}

func TestDecodeFillingAndBytesTooMany(t *testing.T) {
	expectRefused(t, []refused{
		{"01011000", api.ErrText, 0}, {"01010100", api.ErrText, 0}, {"01010010", api.ErrText, 0}, {"01010001", api.ErrText, 0},
		{"01010000" + zeros(8), api.ErrText, 1}, {"01010000" + ones(8), api.ErrText, 1}, {"01010000" + zeros(80), api.ErrText, 1},
		{"01010001" + zeros(8), api.ErrText, 0},
		{bitsOf("(1,0);0") + zeros(8), api.ErrText, 1}, {bitsOf("(1,0);0") + "1", api.ErrText, 0},
		{bitsOf("1;3") + "00000001", api.ErrText, 1},
		{bitsOf("1;7") + "000001", api.ErrText, 1}, {bitsOf("1;7") + zeros(6) + "00000001", api.ErrText, 2},
	})
}

// TestDecodeEndsTooEarly: no code is the beginning of another one.
func TestDecodeEndsTooEarly(t *testing.T) {
	expectRefused(t, []refused{{"", api.ErrText, 0}, {"01000000", api.ErrText, 1}, {ones(8), api.ErrText, 1}})
	random := rand.New(rand.NewSource(13))
	for range 50 {
		code, _ := Encode(randomLine(random).stamp())
		for end := range len(code) {
			if stamp, errno, place := Decode(code[:end]); stamp != "" || errno != api.ErrText || place != end {
				t.Errorf("P7: Decode(%x) = %q, %d, %d, want ErrText, %d", code[:end], stamp, errno, place, end)
			}
		}
		for _, more := range []string{"\x00", "\x01", "\xff", code, "\x00\x00"} {
			if stamp, errno, place := Decode(code + more); stamp != "" || errno != api.ErrText || place != len(code) {
				t.Errorf("P7: Decode(%x) = %q, %d, %d, want ErrText, %d", code+more, stamp, errno, place, len(code))
			}
		}
	}
}

func TestDecodeCountAndPlain(t *testing.T) {
	var cases []refused
	for stamp, want := range map[string]api.Errno{
		"(0,0);0": api.ErrPlain, "(1,1);0": api.ErrPlain, "((0,0),1);0": api.ErrPlain, "(0,(1,1));3": api.ErrPlain, "((1,1),0);(0,1,0)": api.ErrPlain,
		"1;(0,0,0)": api.ErrPlain, "1;(4,0,0)": api.ErrPlain, "1;(0,3,3)": api.ErrPlain, "1;(1,1,2)": api.ErrPlain, "1;(0,(1,0,1),2)": api.ErrPlain,
		"1;(0,(1,0,1),(2,0,1))": api.ErrPlain, "1;(0,(0,0,0),1)": api.ErrPlain, "1;(0,1,(0,1,1))": api.ErrPlain, "1;(1099511627776,0,0)": api.ErrPlain,
		"1;(1099511627776,0,1)": api.ErrCount, "1;(1099511627776,1,0)": api.ErrCount, "0;(1,0,1099511627776)": api.ErrCount,
		"1;(1,(1099511627775,0,1),0)": api.ErrCount, "1;(1099511627776,1,1)": api.ErrCount, "(1,1);(1099511627776,0,1)": api.ErrCount,
		"1;" + strings.Repeat("(1099511627776,0,", 8) + "1099511627776" + strings.Repeat(")", 8): api.ErrCount,
	} {
		cases = append(cases, refused{bitsOf(stamp), want, 0})
	}
	expectRefused(t, cases)
	expectRefused(t, []refused{
		{bitsOf("(1,1);0") + zeros(8), api.ErrText, 1}, {bitsOf("1;(1099511627776,0,1)") + zeros(8), api.ErrText, 12},
		{bitsOf("1;(0,0,0)") + zeros(8), api.ErrText, 1},
	})
}

// TestDecodeAnswersAsCheck: the errors of small trees, plain or not, are those
// of their texts.
func TestDecodeAnswersAsCheck(t *testing.T) {
	expect := func(stamp string) {
		if errno, _ := Check(stamp); errno == api.OK {
			expectCode(t, stamp, bytesOf(bitsOf(stamp)))
		} else {
			expectRefused(t, []refused{{bitsOf(stamp), errno, 0}})
		}
	}
	allIDs(3, func(id string, _ []bool) { expect(id + ";1") })
	allEVs(2, 0, func(ev string, _ []int) { expect("(0,1);" + ev) })
}
