package sprigs

import (
	"strings"
	"testing"

	"sprigs/api"
)

// deepID and deepEV are halved so many times.
func deepID(n int) string { return strings.Repeat("(0,", n) + "1" + strings.Repeat(")", n) }
func deepEV(n int) string { return strings.Repeat("(0,0,", n) + "1" + strings.Repeat(")", n) }

type checked struct {
	stamp string
	errno api.Errno
	place int
}

func expectChecks(t *testing.T, cases []checked) {
	t.Helper()
	for _, c := range cases {
		if errno, place := Check(c.stamp); errno != c.errno || place != c.place {
			t.Errorf("P3: Check(%.80q) = %d, %d, want %d, %d", c.stamp, errno, place, c.errno, c.place)
		}
	}
}

func TestCheckTakesStamps(t *testing.T) {
	for _, stamp := range []string{
		"1;0", "0;0", "0;9", "1;10", "1;999999999999", "1;1099511627776",
		"(1,0);0", "(0,1);(1,0,1)", "((0,1),(1,0));0", "(0,(1,0));(3,(0,1,0),2)",
		"1;(0,(0,0,1),(0,1,0))", "1;(0,(0,0,1),0)", "1;(0,0,(7,0,1))", "1;(5,0,(0,0,1))",
		"1;(0,0,1099511627776)", "1;(1099511627775,0,1)", "1;(1,(1099511627774,0,1),0)",
		deepID(8) + ";0", "1;" + deepEV(8), deepID(8) + ";" + deepEV(8),
	} {
		expectChecks(t, []checked{{stamp, api.OK, 0}})
	}
}

func TestCheckLength(t *testing.T) {
	expectChecks(t, []checked{
		{strings.Repeat("(", 20001), api.ErrLong, 0},
		{"1;0" + strings.Repeat("0", 19998), api.ErrLong, 0},
		{"1;0" + strings.Repeat("0", 19997), api.ErrText, 3},
		{strings.Repeat("\x00", 1000000), api.ErrLong, 0},
	})
}

func TestCheckTextWrongByte(t *testing.T) {
	expectChecks(t, []checked{
		{"2;0", api.ErrText, 0}, {";0", api.ErrText, 0}, {"\xff", api.ErrText, 0},
		{"1 ;0", api.ErrText, 1}, {"11;0", api.ErrText, 1}, {"1,0", api.ErrText, 1}, {"1);0", api.ErrText, 1},
		{"(1;0", api.ErrText, 2}, {"();0", api.ErrText, 1}, {"(1,);0", api.ErrText, 3}, {"(1,0,1);0", api.ErrText, 4},
		{"(1,2);0", api.ErrText, 3}, {"(1,0)1;0", api.ErrText, 5}, {"(1,0);0;", api.ErrText, 7},
		{"1;;", api.ErrText, 2}, {"1;-1", api.ErrText, 2}, {"1;x", api.ErrText, 2}, {"1;0x1", api.ErrText, 3}, {"1;1\n", api.ErrText, 3},
		{"1;()", api.ErrText, 3}, {"1;((0,0,1),0,1)", api.ErrText, 3}, {"1;(1)", api.ErrText, 4}, {"1;(0,1)", api.ErrText, 6},
		{"1;(0,0,1,2)", api.ErrText, 8}, {"1;(0,0,1))", api.ErrText, 9}, {"1;(0,0,1)0", api.ErrText, 9},
		{"1;(0;0,1)", api.ErrText, 4}, {"1;(,0,1)", api.ErrText, 3},
	})
}

func TestCheckTextNum(t *testing.T) {
	expectChecks(t, []checked{
		{"1;00", api.ErrText, 3}, {"1;01", api.ErrText, 3}, {"1;0001", api.ErrText, 3},
		{"1;(00,0,1)", api.ErrText, 4}, {"1;(0,01,0)", api.ErrText, 6}, {"1;(0,0,09)", api.ErrText, 8},
		{"1;1099511627777", api.ErrText, 14}, {"1;1099511627780", api.ErrText, 14}, {"1;1100000000000", api.ErrText, 14},
		{"1;2000000000000", api.ErrText, 14}, {"1;10995116277760", api.ErrText, 15}, {"1;10995116277770", api.ErrText, 14},
		{"1;18446744073709551617", api.ErrText, 14}, {"1;" + strings.Repeat("9", 19998), api.ErrText, 14},
		{"1;(1099511627777,0,1)", api.ErrText, 15}, {"1;(0,1099511627777,0)", api.ErrText, 17},
	})
}

func TestCheckTextBrackets(t *testing.T) {
	expectChecks(t, []checked{
		{deepID(9) + ";0", api.ErrText, 24},
		{"1;" + deepEV(9), api.ErrText, 42},
		{strings.Repeat("(", 20000), api.ErrText, 8},
		{"1;" + strings.Repeat("(0,", 6000), api.ErrText, 26},
		{"(1," + deepID(8) + ");0", api.ErrText, 24},
		{"((((((((", api.ErrText, 8},
	})
}

func TestCheckTextEndsTooEarly(t *testing.T) {
	stamp := "((0,1),(1,(0,1)));(12,(0,(3,0,1),0),(7,0,1099511627))"
	expectChecks(t, []checked{{stamp, api.OK, 0}, {"", api.ErrText, 0}})
	for end := range len(stamp) {
		expectChecks(t, []checked{{stamp[:end], api.ErrText, end}})
	}
}

func TestCheckCount(t *testing.T) {
	expectChecks(t, []checked{
		{"1;(1099511627776,0,1)", api.ErrCount, 21},
		{"1;(1099511627776,1,0)", api.ErrCount, 21},
		{"0;(1,0,1099511627776)", api.ErrCount, 21},
		{"1;(1,(1099511627775,0,1),0)", api.ErrCount, 27},
		{"1;(1,0,(1099511627775,1,0))", api.ErrCount, 27},
		{"1;" + strings.Repeat("(1099511627776,0,", 8) + "1099511627776" + strings.Repeat(")", 8), api.ErrCount, 2 + 8*18 + 13},
	})
}

func TestCheckPlain(t *testing.T) {
	expectChecks(t, []checked{
		{"(0,0);0", api.ErrPlain, 0}, {"(1,1);0", api.ErrPlain, 0},
		{"((0,0),0);0", api.ErrPlain, 1}, {"((1,0),(1,1));0", api.ErrPlain, 7}, {"((1,1),(0,0));0", api.ErrPlain, 1},
		{"1;(0,0,0)", api.ErrPlain, 2}, {"1;(4,0,0)", api.ErrPlain, 2}, {"1;(0,3,3)", api.ErrPlain, 2}, {"1;(1,1,2)", api.ErrPlain, 2},
		{"1;(0,(1,0,1),2)", api.ErrPlain, 2}, {"1;(0,(1,0,1),(2,0,1))", api.ErrPlain, 2},
		{"1;(0,(0,0,0),0)", api.ErrPlain, 5}, {"1;(0,(0,0,1),(0,2,2))", api.ErrPlain, 13},
		{"1;(0,(1,0,0),(2,1,1))", api.ErrPlain, 2}, {"1;(0,(0,(0,0,0),1),(0,0,0))", api.ErrPlain, 8},
		{"(1,0);(0,1,1)", api.ErrPlain, 6}, {"(0,(1,1));(0,1,1)", api.ErrPlain, 3},
	})
}

func TestCheckNamesFirstError(t *testing.T) {
	expectChecks(t, []checked{
		{"(1,1);x", api.ErrText, 6},
		{"1;(1099511627776,1,1", api.ErrText, 20},
		{"(1,1);(1099511627776,0,1)", api.ErrCount, 25},
		{"1;(1099511627776,1,1)", api.ErrCount, 21},
		{"1;(1099511627776,0,0)", api.ErrPlain, 2},
	})
}
