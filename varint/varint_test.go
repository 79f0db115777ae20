package varint_test

import (
	"math"
	"strings"
	"testing"

	"cursitor/api"
	"cursitor/input"
	"cursitor/output"
	"cursitor/varint"
)

type (
	reader = func(*input.Input) int
	writer = func(*output.Output, int)
)

// written is what a call writes of a number behind one byte that stood there.
func written(put writer, n int) (string, api.Errno) {
	var out output.Output
	out.Byte('<')
	put(&out, n)
	if out.Err() != api.OK {
		return "", out.Err()
	}
	s, e := out.Text()
	return s[1:], e
}

// P3.1, P3.2
func TestUint(t *testing.T) {
	for _, x := range []struct {
		n int
		s string
	}{
		{0, "\x00"}, {1, "\x01"}, {127, "\x7F"}, {128, "\x80\x01"}, {129, "\x81\x01"}, {255, "\xFF\x01"}, {300, "\xAC\x02"},
		{16383, "\xFF\x7F"}, {16384, "\x80\x80\x01"}, {1<<21 - 1, "\xFF\xFF\x7F"}, {1 << 21, "\x80\x80\x80\x01"},
		{1<<28 - 1, "\xFF\xFF\xFF\x7F"}, {1 << 28, "\x80\x80\x80\x80\x01"},
		{1 << 31, "\x80\x80\x80\x80\x08"}, {1<<32 - 1, "\xFF\xFF\xFF\xFF\x0F"},
	} {
		if s, e := written(varint.PutUint, x.n); s != x.s || e != api.OK {
			t.Errorf("PutUint(%d): %q, %v", x.n, s, e)
		}
		in := input.New(x.s + "z")
		if n := varint.Uint(in); n != x.n || in.At() != len(x.s) || in.Err() != api.OK {
			t.Errorf("Uint of %q: %d, %v", x.s, n, in.Err())
		}
	}
	for _, n := range []int{-1, -128, 1 << 32, 1<<32 + 1, 1 << 62, math.MaxInt, math.MinInt} {
		if s, e := written(varint.PutUint, n); s != "" || e != api.ErrRange {
			t.Errorf("PutUint(%d): %q, %v", n, s, e)
		}
	}
}

// numbers and the bytes of them, folded
var folded = []struct {
	n int
	s string
}{
	{0, "\x00"}, {-1, "\x01"}, {1, "\x02"}, {-2, "\x03"}, {2, "\x04"}, {63, "\x7E"}, {-64, "\x7F"}, {64, "\x80\x01"}, {-65, "\x81\x01"},
	{8191, "\xFE\x7F"}, {-8192, "\xFF\x7F"}, {8192, "\x80\x80\x01"}, {-8193, "\x81\x80\x01"},
	{1<<20 - 1, "\xFE\xFF\x7F"}, {-1 << 20, "\xFF\xFF\x7F"}, {1 << 20, "\x80\x80\x80\x01"},
	{1<<27 - 1, "\xFE\xFF\xFF\x7F"}, {-1 << 27, "\xFF\xFF\xFF\x7F"}, {1 << 27, "\x80\x80\x80\x80\x01"},
	{1<<31 - 1, "\xFE\xFF\xFF\xFF\x0F"}, {-1 << 31, "\xFF\xFF\xFF\xFF\x0F"},
	{1 << 31, "\x80\x80\x80\x80\x10"}, {-1<<31 - 1, "\x81\x80\x80\x80\x10"}, {1 << 32, "\x80\x80\x80\x80\x20"},
	{1<<34 - 1, "\xFE\xFF\xFF\xFF\x7F"}, {1 << 34, "\x80\x80\x80\x80\x80\x01"},
	{1 << 41, "\x80\x80\x80\x80\x80\x80\x01"}, {1 << 48, "\x80\x80\x80\x80\x80\x80\x80\x01"}, {-1 << 55, "\xFF\xFF\xFF\xFF\xFF\xFF\xFF\x7F"},
	{1<<62 - 1, "\xFE\xFF\xFF\xFF\xFF\xFF\xFF\xFF\x7F"}, {1 << 62, "\x80\x80\x80\x80\x80\x80\x80\x80\x80\x01"},
	{math.MaxInt, "\xFE\xFF\xFF\xFF\xFF\xFF\xFF\xFF\xFF\x01"}, {math.MinInt, "\xFF\xFF\xFF\xFF\xFF\xFF\xFF\xFF\xFF\x01"},
}

// P3.1, P3.2
func TestFolded(t *testing.T) {
	for _, x := range folded {
		small := x.n >= -1<<31 && x.n < 1<<31
		if s, e := written(varint.PutLong, x.n); s != x.s || e != api.OK {
			t.Errorf("PutLong(%d): %q, %v", x.n, s, e)
		}
		if n := varint.Size(x.n); n != len(x.s) {
			t.Errorf("Size(%d) = %d", x.n, n)
		}
		s, e := written(varint.PutInt, x.n)
		if small && (s != x.s || e != api.OK) || !small && (s != "" || e != api.ErrRange) {
			t.Errorf("PutInt(%d): %q, %v", x.n, s, e)
		}
		in := input.New(x.s + "z")
		if n := varint.Long(in); n != x.n || in.At() != len(x.s) || in.Err() != api.OK {
			t.Errorf("Long of %q: %d, %v", x.s, n, in.Err())
		}
		in = input.New(x.s + "z")
		n := varint.Int(in)
		if small && (n != x.n || in.At() != len(x.s) || in.Err() != api.OK) || !small && (n != 0 || in.Err() != api.ErrVarint) {
			t.Errorf("Int of %q: %d, %v", x.s, n, in.Err())
		}
	}
}

// rule is what P3.2 says of a reader: how many bytes there are at most, the greatest last digit of as many, and whether numbers are folded.
type rule struct {
	name   string
	read   reader
	most   int
	top    byte
	folded bool
}

func rules() []rule {
	return []rule{{"Uint", varint.Uint, 5, 15, false}, {"Int", varint.Int, 5, 15, true}, {"Long", varint.Long, 10, 1, true}}
}

// told is the number that bytes begin with, how many bytes it has, and what goes wrong, as P3.2 tells it, the highest digit first.
func (r rule) told(s string) (int, int, api.Errno) {
	end := 0
	for ; ; end++ {
		if end == len(s) {
			return 0, 0, api.ErrShort
		}
		if end == r.most || end == r.most-1 && s[end]&127 > r.top || end > 0 && s[end] == 0 {
			return 0, 0, api.ErrVarint
		}
		if s[end] < 128 {
			break
		}
	}
	n := uint64(0)
	for i := end; i >= 0; i-- {
		n = n*128 + uint64(s[i]&127)
	}
	if !r.folded {
		return int(n), end + 1, api.OK
	}
	if n%2 == 1 {
		return -int(n/2) - 1, end + 1, api.OK
	}
	return int(n / 2), end + 1, api.OK
}

func (r rule) check(t *testing.T, s string) {
	want, size, e := r.told(s)
	in := input.New(s)
	if n := r.read(in); n != want || in.Err() != e || e == api.OK && in.At() != size {
		t.Errorf("%s of %q: %d, %v, read %d; not %d, %v, %d", r.name, s, n, in.Err(), in.At(), want, e, size)
	}
}

// P3.2: edges, each told by its error.
func TestWrongBytes(t *testing.T) {
	ff := func(n int) string { return strings.Repeat("\xFF", n) }
	zero := func(n int) string { return strings.Repeat("\x80", n) }
	for _, x := range []struct {
		s           string
		short, long api.Errno // of Uint and Int, and of Long
	}{
		{"", api.ErrShort, api.ErrShort}, {"\x80", api.ErrShort, api.ErrShort}, {"\xFF\xFF", api.ErrShort, api.ErrShort}, {ff(4), api.ErrShort, api.ErrShort},
		{"\x80\x00", api.ErrVarint, api.ErrVarint}, {"\xFF\x00", api.ErrVarint, api.ErrVarint}, {"\x81\x80\x00", api.ErrVarint, api.ErrVarint}, {zero(4) + "\x00", api.ErrVarint, api.ErrVarint},
		{ff(4) + "\x0F", api.OK, api.OK}, {ff(4) + "\x10", api.ErrVarint, api.OK}, {ff(4) + "\x7F", api.ErrVarint, api.OK}, {zero(4) + "\x10", api.ErrVarint, api.OK},
		{ff(4) + "\x8F", api.ErrShort, api.ErrShort}, {ff(4) + "\x8F\x01", api.ErrVarint, api.OK}, {ff(4) + "\x8F\x00", api.ErrVarint, api.ErrVarint}, {zero(5), api.ErrShort, api.ErrShort}, {zero(5) + "\x01", api.ErrVarint, api.OK}, {zero(6), api.ErrVarint, api.ErrShort},
		{ff(4) + "\x90", api.ErrVarint, api.ErrShort}, {ff(5), api.ErrVarint, api.ErrShort},
		{ff(9), api.ErrVarint, api.ErrShort}, {ff(9) + "\x01", api.ErrVarint, api.OK}, {ff(9) + "\x00", api.ErrVarint, api.ErrVarint}, {ff(9) + "\x02", api.ErrVarint, api.ErrVarint}, {ff(9) + "\x7F", api.ErrVarint, api.ErrVarint},
		{ff(10), api.ErrVarint, api.ErrVarint}, {ff(9) + "\x81", api.ErrVarint, api.ErrShort}, {ff(9) + "\x80", api.ErrVarint, api.ErrShort}, {ff(9) + "\x82", api.ErrVarint, api.ErrVarint},
		{ff(9) + "\x81\x01", api.ErrVarint, api.ErrVarint}, {ff(9) + "\x81\x80", api.ErrVarint, api.ErrVarint}, {zero(10) + "\x01", api.ErrVarint, api.ErrVarint},
	} {
		for _, r := range rules() {
			want := x.short
			if r.most == 10 {
				want = x.long
			}
			in := input.New(x.s)
			n := r.read(in)
			if in.Err() != want || want != api.OK && n != 0 {
				t.Errorf("%s of %q: %d, %v, not %v", r.name, x.s, n, in.Err(), want)
			}
			r.check(t, x.s)
		}
	}
}

// P3.2: all rows of some bytes that matter, behind as many as matter.
func TestAllRowsOfBytes(t *testing.T) {
	matter := "\x00\x01\x02\x0F\x10\x7F\x80\x81\x8F\x90\xFF"
	rows := []string{""}
	for range 3 {
		var next []string
		for _, s := range rows {
			for i := range len(matter) {
				next = append(next, s+matter[i:i+1])
			}
		}
		rows = append(rows, next...)
	}
	for _, r := range rules() {
		for _, ahead := range []int{0, 3, 4, 7, 8, 9} {
			for _, s := range rows {
				r.check(t, strings.Repeat("\x85", ahead)+s)
			}
		}
	}
}

// P3.1, P3.2: what is written is read as it was.
func TestThereAndBack(t *testing.T) {
	for shift := range 64 {
		for _, low := range []int{-2, -1, 0, 1, 2} {
			for _, n := range []int{1<<shift + low, -(1 << shift) + low} {
				s, e := written(varint.PutLong, n)
				in := input.New(s)
				if back := varint.Long(in); e != api.OK || back != n || in.Close() != api.OK || varint.Size(n) != len(s) {
					t.Errorf("%d is %q, and back %d", n, s, back)
				}
			}
		}
	}
}

// P1, P2: once something went wrong, nothing is read or written.
func TestNothingHappensOnceSomethingWentWrong(t *testing.T) {
	for _, r := range rules() {
		in := input.New("\x05\x80")
		in.Fail(api.ErrSum)
		if n := r.read(in); n != 0 || in.Err() != api.ErrSum || in.At() != 0 {
			t.Errorf("%s: %d, %v", r.name, n, in.Err())
		}
	}
	for i, put := range []writer{varint.PutUint, varint.PutInt, varint.PutLong} {
		var out output.Output
		out.Put("abc")
		out.Fail(api.ErrSum)
		put(&out, 1)
		put(&out, math.MaxInt)
		if out.Len() != 3 || out.Err() != api.ErrSum {
			t.Error("a number was written", i, out.Len(), out.Err())
		}
	}
}
