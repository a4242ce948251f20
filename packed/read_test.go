package packed

import (
	"testing"

	"sprigs/api"
	"sprigs/fault"
)

func TestReadGivesUp(t *testing.T) {
	for _, c := range []struct {
		code string
		want fault.Fault
	}{
		{"", fault.Fault{Errno: api.ErrText, Place: 0}},
		{"\x51", fault.Fault{Errno: api.ErrText, Place: 0}},
		{"\x50\x00", fault.Fault{Errno: api.ErrText, Place: 1}},
		{"\xff\x80", fault.Fault{Errno: api.ErrText, Place: 1}},
		{"\xaa", fault.Fault{Errno: api.ErrPlain, Place: 0}},
		{string(make([]byte, 20001)), fault.Fault{Errno: api.ErrLong, Place: 0}},
	} {
		func() {
			defer func() {
				if thrown := recover(); thrown != c.want {
					t.Errorf("Read(%.10x) threw %v, want %v", c.code, thrown, c.want)
				}
			}()
			Read(c.code)
		}()
	}
}

func TestReadGivesWhatWasWritten(t *testing.T) {
	for _, code := range []string{"\x50", "\x10", "\xa2", "\x8d\x24", "\xc6\x88", "\x7d\x24", "\xa4\xb9\xa6"} {
		if got := Write(Read(code)); got != code {
			t.Errorf("Write(Read(%x)) = %x", code, got)
		}
	}
}
