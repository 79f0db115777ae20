package attr_test

import (
	"math"
	"testing"

	"cursitor/api"
	"cursitor/attr"
)

// P9.1
func TestOf(t *testing.T) {
	if attr.Append != 8 || attr.Txn != 16 || attr.Control != 32 {
		t.Error("the bits' numbers")
	}
	for _, x := range []struct {
		append, txn, control bool
		want                 int
	}{
		{false, false, false, 0}, {true, false, false, 8}, {false, true, false, 16}, {false, false, true, 32},
		{true, true, false, 24}, {true, false, true, 40}, {false, true, true, 48}, {true, true, true, 56},
	} {
		b := api.Batch{Append: x.append, Txn: x.txn, Control: x.control}
		if n := attr.Of(b); n != x.want {
			t.Errorf("Of %v: %d", x, n)
		}
		// The other fields are of no matter.
		b.Base, b.Leader, b.Last, b.First, b.Max, b.Producer, b.Epoch, b.Sequence = 1, 2, 4, 8, 16, 32, 64, -1
		b.Records = []api.Record{{}}
		if n := attr.Of(b); n != x.want {
			t.Errorf("Of %v, with other fields: %d", x, n)
		}
	}
}

// may is all numbers whose Check is OK.
func may(n int) bool { return n == 0 || n == 8 || n == 16 || n == 24 || n == 48 || n == 56 }

// P9.2
func TestCheck(t *testing.T) {
	for n := -1 << 16; n <= 1<<16; n++ {
		want := api.OK
		if n%8 != 0 {
			want = api.ErrCodec
		} else if !may(n) {
			want = api.ErrAttr
		}
		if e := attr.Check(n); e != want {
			t.Fatalf("Check(%d): %v, not %v", n, e, want)
		}
	}
	for _, x := range []struct {
		n int
		e api.Errno
	}{
		{1, api.ErrCodec}, {2, api.ErrCodec}, {4, api.ErrCodec}, {7, api.ErrCodec}, {33, api.ErrCodec}, {65, api.ErrCodec}, {-1, api.ErrCodec}, {math.MaxInt, api.ErrCodec},
		{32, api.ErrAttr}, {40, api.ErrAttr}, {64, api.ErrAttr}, {64 + 48, api.ErrAttr}, {1 << 15, api.ErrAttr}, {1<<62 + 16, api.ErrAttr}, {-8, api.ErrAttr}, {math.MinInt, api.ErrAttr}, {math.MinInt + 48, api.ErrAttr},
	} {
		if e := attr.Check(x.n); e != x.e {
			t.Errorf("Check(%d): %v", x.n, e)
		}
	}
}

// P9.2
func TestRead(t *testing.T) {
	for n := -300; n < 300; n++ {
		low := ((n % 64) + 64) % 64 // as bits are counted below 0, too
		a, x, c := attr.Read(n)
		if a != (low/8%2 == 1) || x != (low/16%2 == 1) || c != (low/32%2 == 1) {
			t.Errorf("Read(%d): %v, %v, %v", n, a, x, c)
		}
	}
	if a, x, c := attr.Read(math.MinInt); a || x || c {
		t.Error("Read of the highest bit alone")
	}
	if a, x, c := attr.Read(math.MaxInt); !a || !x || !c {
		t.Error("Read of all bits but the highest one")
	}
}
