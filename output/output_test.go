package output_test

import (
	"math"
	"testing"

	"cursitor/api"
	"cursitor/output"
)

// P2.1
func TestFits(t *testing.T) {
	for size := 1; size <= 7; size++ {
		limit := 1 << (8*size - 1)
		for _, x := range []struct {
			n    int
			want bool
		}{
			{0, true}, {1, true}, {-1, true}, {limit - 1, true}, {-limit, true}, {limit / 2, true},
			{limit, false}, {-limit - 1, false}, {2*limit - 1, false}, {2 * limit, false}, {-2 * limit, false},
			{math.MaxInt, false}, {math.MinInt, false},
		} {
			if output.Fits(x.n, size) != x.want {
				t.Errorf("Fits(%d, %d) isn't %v", x.n, size, x.want)
			}
		}
	}
	for _, n := range []int{0, 1, -1, math.MaxInt, math.MinInt} {
		if !output.Fits(n, 8) {
			t.Errorf("Fits(%d, 8)", n)
		}
		for _, size := range []int{0, 9, 64, -1, math.MinInt, math.MaxInt} {
			if output.Fits(n, size) {
				t.Errorf("Fits(%d, %d)", n, size)
			}
		}
	}
}

// P2.1
func TestPutAndByte(t *testing.T) {
	var out output.Output
	want := ""
	for c := range 256 {
		out.Byte(byte(c))
		out.Put("")
		out.Put("ab\x00")
		want += string([]byte{byte(c)}) + "ab\x00"
		if s, e := out.Text(); s != want || e != api.OK || out.Len() != len(want) || out.Err() != api.OK {
			t.Fatalf("%q, %v, Len %d", s, e, out.Len())
		}
	}
}

// P2.1
func TestInt(t *testing.T) {
	for _, x := range []struct {
		n, size int
		want    string
	}{
		{0, 1, "\x00"}, {127, 1, "\x7F"}, {-128, 1, "\x80"}, {-1, 1, "\xFF"},
		{-2, 2, "\xFF\xFE"}, {258, 2, "\x01\x02"}, {32767, 2, "\x7F\xFF"}, {-32768, 2, "\x80\x00"},
		{1, 3, "\x00\x00\x01"}, {-1 << 23, 3, "\x80\x00\x00"},
		{1<<31 - 1, 4, "\x7F\xFF\xFF\xFF"}, {-1 << 31, 4, "\x80\x00\x00\x00"}, {5, 4, "\x00\x00\x00\x05"},
		{4328719365, 5, "\x01\x02\x03\x04\x05"}, {-1 << 40, 6, "\xFF\x00\x00\x00\x00\x00"}, {255 << 40, 7, "\x00\xFF\x00\x00\x00\x00\x00"},
		{72623859790382856, 8, "\x01\x02\x03\x04\x05\x06\x07\x08"},
		{math.MaxInt, 8, "\x7F\xFF\xFF\xFF\xFF\xFF\xFF\xFF"}, {math.MinInt, 8, "\x80\x00\x00\x00\x00\x00\x00\x00"},
	} {
		var out output.Output
		out.Byte('<')
		out.Int(x.n, x.size)
		out.Byte('>')
		if s, e := out.Text(); s != "<"+x.want+">" || e != api.OK {
			t.Errorf("Int(%d, %d): %q, %v", x.n, x.size, s, e)
		}
	}
}

// P2.1
func TestIntThatDoesNotFit(t *testing.T) {
	for _, x := range [][2]int{
		{128, 1}, {-129, 1}, {32768, 2}, {-32769, 2}, {1 << 31, 4}, {-1<<31 - 1, 4}, {1 << 32, 4}, {math.MaxInt, 7},
		{0, 0}, {0, 9}, {0, -1}, {1, math.MaxInt}, {1, math.MinInt},
	} {
		var out output.Output
		out.Put("ab")
		out.Int(x[0], x[1])
		if s, e := out.Text(); s != "" || e != api.ErrRange || out.Err() != api.ErrRange || out.Len() != 2 {
			t.Errorf("Int(%d, %d): %q, %v, Len %d", x[0], x[1], s, e, out.Len())
		}
	}
}

// P2.1, P2.2
func TestNothingHappensOnceSomethingWentWrong(t *testing.T) {
	for e := api.ErrShort; e <= api.ErrWord; e++ {
		var out output.Output
		out.Put("abc")
		out.Fail(e)
		out.Fail(e%api.ErrWord + 1)
		out.Put("d")
		out.Byte('e')
		out.Int(1, 2)
		out.Int(1000, 1)
		out.Int(0, 0)
		if s, got := out.Text(); s != "" || got != e || out.Err() != e || out.Len() != 3 {
			t.Errorf("Fail(%d): %q, %v, %v, Len %d", e, s, got, out.Err(), out.Len())
		}
	}
	var out output.Output
	out.Int(128, 1)
	out.Fail(api.ErrSum)
	if out.Err() != api.ErrRange || out.Len() != 0 {
		t.Error("Fail behind an Int that doesn't fit", out.Err())
	}
}

// P2.2
func TestTheZeroOutput(t *testing.T) {
	var out output.Output
	if s, e := out.Text(); s != "" || e != api.OK || out.Len() != 0 || out.Err() != api.OK {
		t.Errorf("the zero one: %q, %v, Len %d", s, e, out.Len())
	}
}

// P2: a text that was answered stays what it is.
func TestTextsStay(t *testing.T) {
	var out, other output.Output
	out.Put("ab")
	first, _ := out.Text()
	out.Put("cd")
	other.Put("x")
	second, _ := out.Text()
	again, _ := out.Text()
	if first != "ab" || second != "abcd" || again != "abcd" {
		t.Errorf("%q, %q, %q", first, second, again)
	}
}
