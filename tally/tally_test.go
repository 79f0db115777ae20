package tally_test

import (
	"math"
	"slices"
	"testing"

	"cursitor/api"
	"cursitor/batch"
	"cursitor/tally"
)

// plain is a batch of so many records, of nobody; it has 61 bytes, and 7 a record.
func plain(records int) api.Batch {
	b := api.Batch{Last: records, Leader: -1, Producer: -1, Epoch: -1, Sequence: -1}
	for i := range records {
		b.Records = append(b.Records, api.Record{Offset: i})
	}
	return b
}

// P24.1
func TestPoint(t *testing.T) {
	for n := range 10 {
		if z := tally.Point(plain(n)); z != complex(float64(61+7*n), float64(n)) {
			t.Errorf("Point of %d records: %v", n, z)
		}
	}
	for i, do := range []func(*api.Batch){
		func(b *api.Batch) { b.Base = -1 },
		func(b *api.Batch) { b.Records[0].Offset = 1 },
		func(b *api.Batch) { b.Control = true },
		func(b *api.Batch) { *b = api.Batch{} },
	} {
		b := plain(2)
		do(&b)
		want := complex128(0)
		if s, e := batch.Encode(b); e == api.OK {
			want = complex(float64(len(s)), 0)
		}
		if z := tally.Point(b); z != want {
			t.Errorf("Point of the %dth wrong one: %v", i, z)
		}
	}
}

// P24.1
func TestTotal(t *testing.T) {
	wrong := api.Batch{Base: -1}
	for i, x := range []struct {
		l    []api.Batch
		want complex128
	}{
		{nil, 0},
		{[]api.Batch{wrong}, 0},
		{[]api.Batch{plain(0)}, 61},
		{[]api.Batch{plain(3), plain(1)}, 150 + 4i},
		{[]api.Batch{plain(1), wrong, plain(2), plain(2)}, 218 + 5i},
	} {
		if z := tally.Total(x.l...); z != x.want {
			t.Errorf("Total of the %dth: %v, not %v", i, z, x.want)
		}
	}
}

// P24.2
func TestTurn(t *testing.T) {
	for _, x := range []struct {
		z    complex128
		turn [4]complex128
	}{
		{0, [4]complex128{}},
		{1, [4]complex128{1, 1i, -1, -1i}},
		{2 + 3i, [4]complex128{2 + 3i, -3 + 2i, -2 - 3i, 3 - 2i}},
		{-5 + 7i, [4]complex128{-5 + 7i, -7 - 5i, 5 - 7i, 7 + 5i}},
		{1<<50 - 1i, [4]complex128{1<<50 - 1i, 1 + 1<<50*1i, -1<<50 + 1i, -1 - 1<<50*1i}},
	} {
		for _, whole := range []int{0, 4, -4, 400, -400, 1 << 40, -1 << 62, math.MinInt, math.MaxInt - 3} {
			for n, want := range x.turn {
				if z := tally.Turn(x.z, whole+n); z != want {
					t.Errorf("Turn(%v, %d) = %v, not %v", x.z, whole+n, z, want)
				}
			}
		}
		for n := 1; n < 4; n++ {
			if z := tally.Turn(x.z, -n); z != x.turn[4-n] {
				t.Errorf("Turn(%v, %d) = %v, not %v", x.z, -n, z, x.turn[4-n])
			}
		}
	}
}

// rows are sizes.
var rows = [][]int{
	nil,
	{7},
	{0, 7},
	{0, 0, 7},
	{0, 0, 0, 7},
	{0, 0, 0, 0, 7},
	{5, 3, 2},
	{1, 2, 3, 4, 5, 6, 7, 8, 9, 10, 11},
	{-1, 5, -9, 0, 3, -2},
	{1 << 48, 1 << 47, -1 << 48, 1, 1},
	{3, 3, 3, 3},
}

// P24.2
func TestQuarter(t *testing.T) {
	if z := tally.Quarter(1, 5, 3, 2); z != 3+3i {
		t.Errorf("the document's example: %v", z)
	}
	powers := [4]complex128{1, 1i, -1, -1i}
	for _, sizes := range rows {
		kept := sizes
		sizes := append(make([]int, 0, len(kept)+2), kept...) // with spare room
		for _, k := range []int{0, 1, 2, 3, 4, 5, -1, -2, -3, 1<<40 + 1, math.MaxInt, math.MinInt} {
			want := complex128(0)
			for n, size := range sizes {
				want += complex(float64(size), 0) * powers[(k&3)*n%4]
			}
			if z := tally.Quarter(k, sizes...); z != want {
				t.Errorf("Quarter(%d, %v) = %v, not %v", k, sizes, z, want)
			}
		}
		f := tally.Quarters(sizes...)
		for k, z := range f {
			if want := tally.Quarter(k, sizes...); z != want {
				t.Errorf("Quarters of %v: %v", sizes, f)
			}
		}
		if !slices.Equal(sizes, kept) || sizes[:len(kept)+1][len(kept)] != 0 {
			t.Errorf("sizes were changed: %v into %v", kept, sizes)
		}
	}
	if f := tally.Quarters(5, 3, 2, 7); f != [4]complex128{17, 3 - 4i, -3, 3 + 4i} {
		t.Errorf("Quarters: %v", f)
	}
}

// P24.3
func TestBack(t *testing.T) {
	for _, sizes := range rows {
		var want [4]int
		for n, size := range sizes {
			want[n%4] += size
		}
		if got := tally.Back(tally.Quarters(sizes...)); got != want {
			t.Errorf("Back of the Quarters of %v: %v, not %v", sizes, got, want)
		}
	}
	if got := tally.Back([4]complex128{17, 3 - 4i, -3, 3 + 4i}); got != [4]int{5, 3, 2, 7} {
		t.Errorf("Back: %v", got)
	}
}

// P1: whatever numbers are told, calls end.
func TestRawArguments(t *testing.T) {
	nan, inf := math.NaN(), math.Inf(1)
	for _, z := range []complex128{complex(nan, nan), complex(inf, -inf), complex(1e300, -1e300), 0.5 + 0.25i} {
		for n := range 4 {
			tally.Turn(z, n)
		}
		tally.Back([4]complex128{z, z, -z, 0})
	}
	tally.Quarters(math.MaxInt, math.MinInt, math.MaxInt)
}
