package marker_test

import (
	"math"
	"testing"

	"cursitor/api"
	"cursitor/batch"
	"cursitor/marker"
)

func of(s string) api.Blob { return api.Blob{Data: s} }

var some = marker.End{Producer: 7, Epoch: 3, Kind: 1, Time: 5000, Coordinator: 9}

// someBatch is the batch of that End, of the base 1000, and of a leader's epoch 4.
func someBatch() api.Batch {
	return api.Batch{
		Base: 1000, Leader: 4, Txn: true, Control: true, First: 5000, Max: 5000, Producer: 7, Epoch: 3, Sequence: -1,
		Records: []api.Record{{Key: of("\x00\x00\x00\x01"), Value: of("\x00\x00\x00\x00\x00\x09")}},
	}
}

// P12.1
func TestBatch(t *testing.T) {
	b, e := marker.Batch(1000, 4, some)
	if !batch.Same(b, someBatch()) || e != api.OK {
		t.Errorf("Batch: %v, %v", b, e)
	}
	s, e := marker.Encode(1000, 4, some)
	want, _ := batch.Encode(someBatch())
	if s != want || s == "" || e != api.OK {
		t.Errorf("Encode: %q, %v", s, e)
	}
	b, e = marker.Batch(0, -1, marker.End{})
	if want := (api.Batch{Leader: -1, Txn: true, Control: true, Sequence: -1, Records: []api.Record{{Key: of("\x00\x00\x00\x00"), Value: of("\x00\x00\x00\x00\x00\x00")}}}); !batch.Same(b, want) || e != api.OK {
		t.Errorf("Batch of the zero End: %v, %v", b, e)
	}
}

// P12.1, P12.2
func TestThereAndBack(t *testing.T) {
	for _, x := range []marker.End{
		{},
		some,
		{Kind: 1},
		{Producer: math.MaxInt, Epoch: 1<<15 - 1, Kind: 0, Time: math.MaxInt, Coordinator: 1<<31 - 1},
	} {
		for _, at := range [][2]int{{0, -1}, {0, 0}, {math.MaxInt, 1<<31 - 1}} {
			b, e := marker.Batch(at[0], at[1], x)
			if back, ok := marker.Read(b); back != x || !ok || e != api.OK || b.Base != at[0] || b.Leader != at[1] {
				t.Errorf("%v, and back: %v, %v, %v", x, back, ok, e)
			}
			s, e := marker.Encode(at[0], at[1], x)
			if back, f := batch.Decode(s); e != api.OK || f != api.OK || !batch.Same(back, b) {
				t.Errorf("Encode of %v: %v, %v", x, e, f)
			}
		}
	}
}

// P12.1
func TestWrongOnes(t *testing.T) {
	for i, x := range []struct {
		base, leader int
		do           func(*marker.End)
		e            api.Errno
	}{
		{0, 0, func(x *marker.End) { x.Kind = 2 }, api.ErrKind},
		{0, 0, func(x *marker.End) { x.Kind = -1 }, api.ErrKind},
		{0, 0, func(x *marker.End) { x.Coordinator = -1 }, api.ErrRange},
		{0, 0, func(x *marker.End) { x.Coordinator = 1 << 31 }, api.ErrRange},
		{0, 0, func(x *marker.End) { x.Producer = -1 }, api.ErrRange},
		{0, 0, func(x *marker.End) { x.Producer = math.MinInt }, api.ErrRange},
		{0, 0, func(x *marker.End) { x.Producer, x.Epoch = -1, -1 }, api.ErrRange},
		{0, 0, func(x *marker.End) { x.Epoch = -1 }, api.ErrRange},
		{0, 0, func(x *marker.End) { x.Epoch = 1 << 15 }, api.ErrRange},
		{0, 0, func(x *marker.End) { x.Time = -1 }, api.ErrRange},
		{0, 0, func(x *marker.End) { x.Time = math.MinInt }, api.ErrRange},
		{-1, 0, func(*marker.End) {}, api.ErrRange},
		{0, -2, func(*marker.End) {}, api.ErrRange},
		{0, 1 << 31, func(*marker.End) {}, api.ErrRange},
		{-1, 0, func(x *marker.End) { x.Kind = 2 }, api.ErrKind}, // the record's error is the first one
		{0, 0, func(x *marker.End) { x.Kind, x.Coordinator, x.Time = 3, -1, -1 }, api.ErrKind},
	} {
		end := some
		x.do(&end)
		if b, e := marker.Batch(x.base, x.leader, end); !batch.Same(b, api.Batch{}) || e != x.e {
			t.Errorf("Batch of the %dth: %v, %v, not %v", i, b, e, x.e)
		}
		if s, e := marker.Encode(x.base, x.leader, end); s != "" || e != x.e {
			t.Errorf("Encode of the %dth: %q, %v, not %v", i, s, e, x.e)
		}
	}
}

// P12.2
func TestRead(t *testing.T) {
	for i, x := range []struct {
		do   func(*api.Batch)
		want marker.End
		ok   bool
	}{
		{func(*api.Batch) {}, some, true},
		{func(b *api.Batch) { b.Base, b.Leader, b.Last = 0, -1, 5 }, some, true},
		{func(b *api.Batch) { b.Append, b.Max = true, 1 }, some, true},
		{func(b *api.Batch) { b.Records[0].Time, b.Max = 10, 5010 }, marker.End{Producer: 7, Epoch: 3, Kind: 1, Time: 5010, Coordinator: 9}, true},
		{func(b *api.Batch) { b.Records[0].Time = -5000 }, marker.End{Producer: 7, Epoch: 3, Kind: 1, Time: 0, Coordinator: 9}, true},
		{func(b *api.Batch) { b.Records[0].Key = of("\x00\x00\x00\x00") }, marker.End{Producer: 7, Epoch: 3, Kind: 0, Time: 5000, Coordinator: 9}, true},
		{func(b *api.Batch) { b.Control, b.Sequence = false, 0 }, marker.End{}, false}, // it may be, but ends nothing
		{func(b *api.Batch) { b.Control = false }, marker.End{}, false},
		{func(b *api.Batch) { b.Txn = false }, marker.End{}, false},
		{func(b *api.Batch) { b.Base = -1 }, marker.End{}, false},
		{func(b *api.Batch) { b.Sequence = 0 }, marker.End{}, false},
		{func(b *api.Batch) { b.Max = 5001 }, marker.End{}, false},
		{func(b *api.Batch) { b.Records = nil }, marker.End{}, false},
		{func(b *api.Batch) { b.Records = append(b.Records, b.Records[0]) }, marker.End{}, false},
		{func(b *api.Batch) { b.Records[0].Key = of("\x00\x00\x00\x02") }, marker.End{}, false},
		{func(b *api.Batch) { b.Records[0].Value = of("") }, marker.End{}, false},
		{func(b *api.Batch) { b.Records[0].Time = -5001 }, marker.End{}, false},
		{func(b *api.Batch) { *b = api.Batch{} }, marker.End{}, false},
		{func(b *api.Batch) { *b = api.Batch{Control: true} }, marker.End{}, false},
	} {
		b := someBatch()
		x.do(&b)
		if end, ok := marker.Read(b); end != x.want || ok != x.ok {
			t.Errorf("Read of the %dth: %v, %v", i, end, ok)
		}
	}
}

// P2: what is handed in isn't changed, what is answered is new memory.
func TestMemory(t *testing.T) {
	b := someBatch()
	marker.Read(b)
	if !batch.Same(b, someBatch()) {
		t.Error("a batch was changed")
	}
	first, _ := marker.Batch(1000, 4, some)
	first.Records[0].Offset = 5
	if second, _ := marker.Batch(1000, 4, some); !batch.Same(second, someBatch()) {
		t.Error("two answers share memory")
	}
}
