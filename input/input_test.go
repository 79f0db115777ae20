package input_test

import (
	"math"
	"strings"
	"testing"

	"cursitor/api"
	"cursitor/input"
)

// look tells all that can be told of an Input without changing it.
func look(in *input.Input) [3]int { return [3]int{in.At(), in.Left(), int(in.Err())} }

// P1.1
func TestNew(t *testing.T) {
	for _, s := range []string{"", "a", "\x00\xFF", strings.Repeat("x", 1000)} {
		if got := look(input.New(s)); got != [3]int{0, len(s), 0} {
			t.Errorf("New of %d bytes: %v", len(s), got)
		}
	}
}

// P1.1
func TestFailKeepsTheFirst(t *testing.T) {
	for e := api.ErrShort; e <= api.ErrWord; e++ {
		in := input.New("abc")
		in.Fail(e)
		if in.Err() != e {
			t.Error("Fail", e, in.Err())
		}
		in.Fail(e%api.ErrWord + 1)
		if in.Err() != e || in.Close() != e || in.Err() != e {
			t.Error("another Fail, or Close, changed what went wrong first", e, in.Err())
		}
	}
}

// P1.1
func TestNothingHappensOnceSomethingWentWrong(t *testing.T) {
	in := input.New("\x00\x01\x00\x01abcd")
	in.Take(1)
	in.Fail(api.ErrSum)
	before := look(in)
	if before != [3]int{1, 7, int(api.ErrSum)} {
		t.Error("Fail read something, or lost it", before)
	}
	for _, n := range []int{0, 1, 7, 8, 100, -1, math.MinInt, math.MaxInt} {
		if s := in.Take(n); s != "" {
			t.Errorf("Take(%d) = %q", n, s)
		}
		if x := in.Int(n); x != 0 {
			t.Errorf("Int(%d) = %d", n, x)
		}
		if x := in.Count(n, 1); x != 0 {
			t.Errorf("Count(%d, 1) = %d", n, x)
		}
		if x := in.Count(1, n); x != 0 {
			t.Errorf("Count(1, %d) = %d", n, x)
		}
		if got := look(in); got != before {
			t.Error("something was read, or went wrong", n, got)
		}
	}
}

// P1.2
func TestTake(t *testing.T) {
	in := input.New("a\x00b\xFFc")
	for _, x := range []struct {
		n    int
		want string
		at   int
	}{{0, "", 0}, {1, "a", 1}, {2, "\x00b", 3}, {0, "", 3}, {2, "\xFFc", 5}, {0, "", 5}} {
		if s := in.Take(x.n); s != x.want || in.At() != x.at || in.Left() != 5-x.at || in.Err() != api.OK {
			t.Errorf("Take(%d) = %q, At %d, Left %d, %v", x.n, s, in.At(), in.Left(), in.Err())
		}
	}
}

// P1.2
func TestTakeOfWrongNumbers(t *testing.T) {
	for _, x := range []struct {
		n int
		e api.Errno
	}{
		{-1, api.ErrLength}, {-4, api.ErrLength}, {math.MinInt, api.ErrLength},
		{4, api.ErrShort}, {5, api.ErrShort}, {1 << 32, api.ErrShort}, {math.MaxInt, api.ErrShort},
	} {
		in := input.New("abcde")
		in.Take(2)
		if s := in.Take(x.n); s != "" || look(in) != [3]int{2, 3, int(x.e)} {
			t.Errorf("Take(%d) = %q, %v", x.n, s, look(in))
		}
	}
}

// twosComplement is the number that bytes are, told another way: digit by digit, and less a whole turn, if the highest bit is set.
func twosComplement(s string) int {
	n, turn := uint64(0), uint64(1)
	for i := range len(s) {
		n = n*256 + uint64(s[i])
		turn *= 256 // 0 of eight bytes, as it must be
	}
	if s[0] >= 128 {
		n -= turn
	}
	return int(n)
}

// P1.2
func TestInt(t *testing.T) {
	for _, x := range []struct {
		s    string
		want int
	}{
		{"\x00", 0}, {"\x01", 1}, {"\x7F", 127}, {"\x80", -128}, {"\xFF", -1},
		{"\xFF\xFE", -2}, {"\x01\x02", 258}, {"\x7F\xFF", 32767}, {"\x80\x00", -32768}, {"\x00\x80", 128},
		{"\x00\x00\x01", 1}, {"\x80\x00\x00", -1 << 23},
		{"\x7F\xFF\xFF\xFF", 1<<31 - 1}, {"\x80\x00\x00\x00", -1 << 31},
		{"\x01\x02\x03\x04\x05", 4328719365},
		{"\xFF\x00\x00\x00\x00\x00", -1 << 40}, {"\x00\xFF\x00\x00\x00\x00\x00", 255 << 40},
		{"\x7F\xFF\xFF\xFF\xFF\xFF\xFF\xFF", math.MaxInt}, {"\x80\x00\x00\x00\x00\x00\x00\x00", math.MinInt},
		{"\xFF\xFF\xFF\xFF\xFF\xFF\xFF\xFF", -1}, {"\x01\x02\x03\x04\x05\x06\x07\x08", 72623859790382856},
	} {
		in := input.New(x.s + "z")
		if n := in.Int(len(x.s)); n != x.want || look(in) != [3]int{len(x.s), 1, 0} {
			t.Errorf("Int of %q = %d, %v", x.s, n, look(in))
		}
		if n := twosComplement(x.s); n != x.want {
			t.Errorf("the test's own number of %q is %d", x.s, n)
		}
	}
}

// P1.2
func TestIntOfEachSize(t *testing.T) {
	seed := uint32(1)
	for size := 1; size <= 8; size++ {
		for range 200 {
			var b []byte
			for range size {
				seed = seed*1664525 + 1013904223
				b = append(b, byte(seed>>24))
			}
			in := input.New(string(b))
			if n := in.Int(size); n != twosComplement(string(b)) || in.Close() != api.OK {
				t.Errorf("Int of %q = %d, %v", b, n, in.Err())
			}
		}
	}
}

// P1.2
func TestIntOfWrongSizes(t *testing.T) {
	for _, s := range []string{"", "abc", "abcdefghijkl"} {
		for _, size := range []int{0, 9, 10, 16, -1, -8, math.MinInt, math.MaxInt} {
			in := input.New(s)
			if n := in.Int(size); n != 0 || look(in) != [3]int{0, len(s), int(api.ErrLength)} {
				t.Errorf("Int(%d) of %q = %d, %v", size, s, n, look(in))
			}
		}
	}
	for size := 1; size <= 8; size++ {
		s := strings.Repeat("\xFF", size-1)
		in := input.New(s)
		if n := in.Int(size); n != 0 || look(in) != [3]int{0, size - 1, int(api.ErrShort)} {
			t.Errorf("Int(%d) of %d bytes = %d, %v", size, size-1, n, look(in))
		}
	}
}

// P1.2
func TestCount(t *testing.T) {
	for _, x := range []struct {
		s          string
		size, each int
		want       int
		e          api.Errno
	}{
		{"\x00", 1, 1, 0, api.OK}, {"\x00", 1, 100, 0, api.OK}, {"\x00", 1, math.MaxInt, 0, api.OK},
		{"\x02ab", 1, 1, 2, api.OK}, {"\x02abcd", 1, 2, 2, api.OK}, {"\x02abcde", 1, 2, 2, api.OK},
		{"\x00\x02abcd", 2, 2, 2, api.OK}, {"\x01abcdefgh", 1, 8, 1, api.OK},
		{"\x02a", 1, 1, 0, api.ErrShort}, {"\x02abc", 1, 2, 0, api.ErrShort}, {"\x02abcde", 1, 3, 0, api.ErrShort},
		{"\x01", 1, 1, 0, api.ErrShort}, {"\x01abc", 1, math.MaxInt, 0, api.ErrShort},
		{"\x7F\xFF\xFF\xFF\xFF\xFF\xFF\xFFabc", 8, 2, 0, api.ErrShort}, // twice as many are beyond all numbers
		{"\x40\x00\x00\x00\x00\x00\x00\x00abc", 8, 4, 0, api.ErrShort}, // four times as many wrap round to none
		{"\x20\x00\x00\x00\x00\x00\x00\x01abc", 8, 8, 0, api.ErrShort},
		{"\x7F", 1, 0, 127, api.OK}, {"\x7F", 1, -1, 127, api.OK}, {"\x7F", 1, math.MinInt, 127, api.OK},
		{"\x80abc", 1, 1, 0, api.ErrLength}, {"\xFFabc", 1, 1, 0, api.ErrLength}, {"\xFFabc", 1, 0, 0, api.ErrLength}, {"\xFF\xFF", 2, -1, 0, api.ErrLength},
		{"abc", 0, 1, 0, api.ErrLength}, {"abc", 9, 1, 0, api.ErrLength}, {"", -1, 1, 0, api.ErrLength},
		{"", 1, 1, 0, api.ErrShort}, {"\xFF", 2, 1, 0, api.ErrShort},
	} {
		in := input.New(x.s)
		if n := in.Count(x.size, x.each); n != x.want || in.Err() != x.e {
			t.Errorf("Count(%d, %d) of %q = %d, %v", x.size, x.each, x.s, n, in.Err())
		}
		if x.e == api.OK && in.At() != x.size {
			t.Errorf("Count(%d, %d) of %q read %d bytes", x.size, x.each, x.s, in.At())
		}
	}
}

// P1.3
func TestClose(t *testing.T) {
	in := input.New("ab")
	in.Take(2)
	if in.Close() != api.OK || in.Err() != api.OK || in.Close() != api.OK {
		t.Error("Close of all that was read", in.Err())
	}
	for n := range 2 {
		in := input.New("ab")
		in.Take(n)
		if in.Close() != api.ErrLong || look(in) != [3]int{n, 2 - n, int(api.ErrLong)} {
			t.Error("Close of what wasn't read", n, look(in))
		}
		if in.Take(1) != "" || in.Close() != api.ErrLong {
			t.Error("what isn't read by Close went on to be read")
		}
	}
	in = input.New("ab")
	in.Take(3)
	if in.Close() != api.ErrShort {
		t.Error("Close hid what went wrong first", in.Err())
	}
}

// P1, P2: one Input doesn't hang on another one.
func TestInputsAreTheirOwn(t *testing.T) {
	a, b := input.New("abc"), input.New("abc")
	a.Take(2)
	a.Fail(api.ErrKind)
	if look(b) != [3]int{0, 3, 0} || b.Take(3) != "abc" {
		t.Error("two Inputs of the same bytes hang together")
	}
}
