package control_test

import (
	"math"
	"testing"

	"cursitor/api"
	"cursitor/blob"
	"cursitor/control"
	"cursitor/record"
)

// P8.1
func TestKey(t *testing.T) {
	if control.Abort != 0 || control.Commit != 1 {
		t.Error("the ways' numbers")
	}
	for kind, want := range []string{"\x00\x00\x00\x00", "\x00\x00\x00\x01"} {
		if s, e := control.Key(kind); s != want || e != api.OK {
			t.Errorf("Key(%d): %q, %v", kind, s, e)
		}
		if n, e := control.ReadKey(want); n != kind || e != api.OK {
			t.Errorf("ReadKey of %q: %d, %v", want, n, e)
		}
	}
	for _, kind := range []int{-1, 2, 3, 256, 65536, math.MinInt, math.MaxInt} {
		if s, e := control.Key(kind); s != "" || e != api.ErrKind {
			t.Errorf("Key(%d): %q, %v", kind, s, e)
		}
	}
}

// P8.2
func TestReadKeyOfWrongBytes(t *testing.T) {
	for _, x := range []struct {
		s string
		e api.Errno
	}{
		{"", api.ErrShort}, {"\x00", api.ErrShort}, {"\x00\x00", api.ErrShort}, {"\x00\x00\x00", api.ErrShort}, {"\x01", api.ErrShort}, {"\x00\x00\x05", api.ErrShort},
		{"\x00\x01\x00\x00", api.ErrVersion}, {"\x01\x00\x00\x01", api.ErrVersion}, {"\xFF\xFF\x00\x01", api.ErrVersion}, {"\x00\x01\x00\x02", api.ErrVersion}, {"\x00\x01\x00\x00z", api.ErrVersion},
		{"\x00\x00\x00\x02", api.ErrKind}, {"\x00\x00\x01\x00", api.ErrKind}, {"\x00\x00\xFF\xFF", api.ErrKind}, {"\x00\x00\x00\x02z", api.ErrKind}, {"\x00\x00\x80\x01", api.ErrKind},
		{"\x00\x00\x00\x00z", api.ErrLong}, {"\x00\x00\x00\x01\x00\x00", api.ErrLong},
	} {
		if n, e := control.ReadKey(x.s); n != 0 || e != x.e {
			t.Errorf("ReadKey of %q: %d, %v, not %v", x.s, n, e, x.e)
		}
	}
}

// P8.1, P8.2
func TestValue(t *testing.T) {
	for _, x := range []struct {
		epoch int
		s     string
	}{
		{0, "\x00\x00\x00\x00\x00\x00"}, {1, "\x00\x00\x00\x00\x00\x01"}, {258, "\x00\x00\x00\x00\x01\x02"}, {1 << 16, "\x00\x00\x00\x01\x00\x00"}, {1<<31 - 1, "\x00\x00\x7F\xFF\xFF\xFF"},
	} {
		if s, e := control.Value(x.epoch); s != x.s || e != api.OK {
			t.Errorf("Value(%d): %q, %v", x.epoch, s, e)
		}
		if n, e := control.ReadValue(x.s); n != x.epoch || e != api.OK {
			t.Errorf("ReadValue of %q: %d, %v", x.s, n, e)
		}
	}
	for _, epoch := range []int{-1, 1 << 31, 1 << 32, math.MinInt, math.MaxInt} {
		if s, e := control.Value(epoch); s != "" || e != api.ErrRange {
			t.Errorf("Value(%d): %q, %v", epoch, s, e)
		}
	}
}

// P8.2
func TestReadValueOfWrongBytes(t *testing.T) {
	for _, x := range []struct {
		s string
		e api.Errno
	}{
		{"", api.ErrShort}, {"\x00", api.ErrShort}, {"\x01", api.ErrShort}, {"\x00\x00", api.ErrShort}, {"\x00\x00\x00\x00\x00", api.ErrShort}, {"\x00\x00\xFF\xFF\xFF", api.ErrShort},
		{"\x00\x01\x00\x00\x00\x00", api.ErrVersion}, {"\x01\x00\x00\x00\x00\x00", api.ErrVersion}, {"\xFF\xFF\xFF\xFF\xFF\xFF", api.ErrVersion}, {"\x00\x02\x00\x00\x00\x00z", api.ErrVersion},
		{"\x00\x00\xFF\xFF\xFF\xFF", api.ErrRange}, {"\x00\x00\x80\x00\x00\x00", api.ErrRange}, {"\x00\x00\x80\x00\x00\x00z", api.ErrRange},
		{"\x00\x00\x00\x00\x00\x00z", api.ErrLong}, {"\x00\x00\x7F\xFF\xFF\xFF\x00\x00", api.ErrLong},
	} {
		if n, e := control.ReadValue(x.s); n != 0 || e != x.e {
			t.Errorf("ReadValue of %q: %d, %v, not %v", x.s, n, e, x.e)
		}
	}
}

// P8.3
func TestRecord(t *testing.T) {
	for _, x := range []struct {
		kind, epoch int
		key, value  string
	}{
		{control.Abort, 0, "\x00\x00\x00\x00", "\x00\x00\x00\x00\x00\x00"},
		{control.Commit, 5, "\x00\x00\x00\x01", "\x00\x00\x00\x00\x00\x05"},
		{control.Commit, 1<<31 - 1, "\x00\x00\x00\x01", "\x00\x00\x7F\xFF\xFF\xFF"},
	} {
		want := api.Record{Key: blob.Of(x.key), Value: blob.Of(x.value)}
		if r, e := control.Record(x.kind, x.epoch); !record.Same(r, want) || e != api.OK {
			t.Errorf("Record(%d, %d): %v, %v", x.kind, x.epoch, r, e)
		}
		for _, time := range []int{0, 1, -1, math.MinInt, math.MaxInt} {
			want.Time = time
			if kind, epoch, e := control.Read(want); kind != x.kind || epoch != x.epoch || e != api.OK {
				t.Errorf("Read of %v: %d, %d, %v", want, kind, epoch, e)
			}
		}
	}
	for _, x := range []struct {
		kind, epoch int
		e           api.Errno
	}{{2, 0, api.ErrKind}, {-1, 0, api.ErrKind}, {2, -1, api.ErrKind}, {0, -1, api.ErrRange}, {1, 1 << 31, api.ErrRange}} {
		if r, e := control.Record(x.kind, x.epoch); !record.Same(r, api.Record{}) || e != x.e {
			t.Errorf("Record(%d, %d): %v, %v", x.kind, x.epoch, r, e)
		}
	}
}

// P8.3
func TestReadOfWrongOnes(t *testing.T) {
	for i, x := range []struct {
		change func(*api.Record)
		e      api.Errno
	}{
		{func(r *api.Record) { r.Key = blob.None() }, api.ErrKind},
		{func(r *api.Record) { r.Key.Null = true }, api.ErrKind},
		{func(r *api.Record) { r.Value = blob.None() }, api.ErrKind},
		{func(r *api.Record) { r.Value.Null = true }, api.ErrKind},
		{func(r *api.Record) { r.Headers = []api.Header{{}} }, api.ErrKind},
		{func(r *api.Record) { r.Offset = 1 }, api.ErrKind},
		{func(r *api.Record) { r.Offset = -1 }, api.ErrKind},
		{func(r *api.Record) { r.Offset, r.Key = 1, blob.Of("") }, api.ErrKind},
		{func(r *api.Record) { r.Key = blob.Of("") }, api.ErrShort},
		{func(r *api.Record) { r.Key = blob.Of("\x00\x01\x00\x00") }, api.ErrVersion},
		{func(r *api.Record) { r.Key = blob.Of("\x00\x00\x00\x02") }, api.ErrKind},
		{func(r *api.Record) { r.Key = blob.Of("\x00\x00\x00\x01\x00") }, api.ErrLong},
		{func(r *api.Record) { r.Value = blob.Of("") }, api.ErrShort},
		{func(r *api.Record) { r.Value = blob.Of("\x00\x01\x00\x00\x00\x00") }, api.ErrVersion},
		{func(r *api.Record) { r.Value = blob.Of("\x00\x00\xFF\x00\x00\x00") }, api.ErrRange},
		{func(r *api.Record) { r.Value = blob.Of("\x00\x00\x00\x00\x00\x00\x00") }, api.ErrLong},
		{func(r *api.Record) { r.Key, r.Value = blob.Of("\x00\x01\x00\x00"), blob.Of("") }, api.ErrVersion},
	} {
		r, _ := control.Record(control.Commit, 7)
		x.change(&r)
		if kind, epoch, e := control.Read(r); kind != 0 || epoch != 0 || e != x.e {
			t.Errorf("Read of the %dth, %v: %d, %d, %v, not %v", i, r, kind, epoch, e, x.e)
		}
	}
}

// P1, P2: what is answered is new memory.
func TestRecordsAreTheirOwn(t *testing.T) {
	first, _ := control.Record(control.Commit, 7)
	first.Key, first.Headers = blob.None(), append(first.Headers, api.Header{})
	if second, e := control.Record(control.Commit, 7); e != api.OK || second.Key.Null || len(second.Headers) != 0 {
		t.Error("two answers share memory", second)
	}
}
