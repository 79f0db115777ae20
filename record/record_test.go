package record_test

import (
	"math"
	"slices"
	"strings"
	"testing"

	"cursitor/api"
	"cursitor/blob"
	"cursitor/input"
	"cursitor/output"
	"cursitor/record"
)

var (
	none  = api.Blob{Null: true}
	wrong = api.Blob{Null: true, Data: "x"}
)

func headers(l ...api.Header) []api.Header { return l }

// rows are records that may be, and their bytes.
func rows() []struct {
	r api.Record
	s string
} {
	long := strings.Repeat("v", 100)
	return []struct {
		r api.Record
		s string
	}{
		{api.Record{Key: none, Value: none}, "\x0C\x00\x00\x00\x01\x01\x00"},
		{api.Record{}, "\x0C\x00\x00\x00\x00\x00\x00"},
		{api.Record{Key: none}, "\x0C\x00\x00\x00\x01\x00\x00"},
		{api.Record{Value: none}, "\x0C\x00\x00\x00\x00\x01\x00"},
		{api.Record{Time: 1, Offset: 2, Key: blob.Of("k"), Value: blob.Of("vw")}, "\x12\x00\x02\x04\x02k\x04vw\x00"},
		{api.Record{Time: -1, Offset: 64}, "\x0E\x00\x01\x80\x01\x00\x00\x00"},
		{api.Record{Offset: 1<<31 - 1}, "\x14\x00\x00\xFE\xFF\xFF\xFF\x0F\x00\x00\x00"},
		{api.Record{Time: math.MaxInt}, "\x1E\x00\xFE\xFF\xFF\xFF\xFF\xFF\xFF\xFF\xFF\x01\x00\x00\x00\x00"},
		{api.Record{Time: math.MinInt}, "\x1E\x00\xFF\xFF\xFF\xFF\xFF\xFF\xFF\xFF\xFF\x01\x00\x00\x00\x00"},
		{api.Record{Headers: headers(api.Header{Key: "h", Value: none})}, "\x12\x00\x00\x00\x00\x00\x02\x02h\x01"},
		{api.Record{Key: blob.Of("a"), Headers: headers(api.Header{Key: "", Value: blob.Of("b")}, api.Header{Key: "c"})}, "\x1A\x00\x00\x00\x02a\x00\x04\x00\x02b\x02c\x00"},
		{api.Record{Value: blob.Of(long)}, "\xD6\x01\x00\x00\x00\x00\xC8\x01" + long + "\x00"},
	}
}

// P7.1
func TestRight(t *testing.T) {
	for _, x := range rows() {
		if e := record.Right(x.r); e != api.OK {
			t.Errorf("Right of %v: %v", x.r, e)
		}
	}
	for _, x := range wrongOnes() {
		if e := record.Right(x.r); e != x.e {
			t.Errorf("Right of %v: %v, not %v", x.r, e, x.e)
		}
	}
}

func wrongOnes() []struct {
	r api.Record
	e api.Errno
} {
	bad := headers(api.Header{Key: "a"}, api.Header{Key: "b", Value: wrong}, api.Header{Key: "c"})
	return []struct {
		r api.Record
		e api.Errno
	}{
		{api.Record{Offset: -1}, api.ErrRange}, {api.Record{Offset: 1 << 31}, api.ErrRange}, {api.Record{Offset: math.MinInt}, api.ErrRange}, {api.Record{Offset: math.MaxInt}, api.ErrRange},
		{api.Record{Key: wrong}, api.ErrLength}, {api.Record{Value: wrong}, api.ErrLength}, {api.Record{Headers: bad}, api.ErrLength},
		{api.Record{Headers: bad[1:2]}, api.ErrLength}, {api.Record{Headers: bad[:2]}, api.ErrLength}, {api.Record{Key: none, Value: wrong}, api.ErrLength},
		{api.Record{Offset: -1, Key: wrong}, api.ErrRange}, {api.Record{Offset: 1 << 31, Headers: bad}, api.ErrRange},
	}
}

// P7.2
func TestEncodeAndWrite(t *testing.T) {
	for _, x := range rows() {
		kept := slices.Clone(x.r.Headers)
		if s, e := record.Encode(x.r); s != x.s || e != api.OK {
			t.Errorf("Encode of %v: %q, %v", x.r, s, e)
		}
		var out output.Output
		out.Byte('<')
		record.Write(&out, x.r)
		record.Write(&out, x.r)
		if s, e := out.Text(); s != "<"+x.s+x.s || e != api.OK {
			t.Errorf("Write of %v: %q, %v", x.r, s, e)
		}
		if !slices.Equal(kept, x.r.Headers) {
			t.Errorf("headers were changed: %v into %v", kept, x.r.Headers)
		}
	}
	for _, x := range wrongOnes() {
		if s, e := record.Encode(x.r); s != "" || e != x.e {
			t.Errorf("Encode of %v: %q, %v", x.r, s, e)
		}
		var out output.Output
		record.Write(&out, x.r)
		if out.Err() != x.e {
			t.Errorf("Write of %v: %v", x.r, out.Err())
		}
	}
}

// P7.3
func TestDecodeAndRead(t *testing.T) {
	for _, x := range rows() {
		if r, e := record.Decode(x.s); !record.Same(r, x.r) || e != api.OK {
			t.Errorf("Decode of %q: %v, %v", x.s, r, e)
		}
		in := input.New(x.s + "z")
		if r := record.Read(in); !record.Same(r, x.r) || in.At() != len(x.s) || in.Err() != api.OK {
			t.Errorf("Read of %q: %v, %v", x.s, r, in.Err())
		}
		if r, e := record.Decode(x.s + "z"); !record.Same(r, api.Record{}) || e != api.ErrLong {
			t.Errorf("Decode of %q and more: %v, %v", x.s, r, e)
		}
		for n := range len(x.s) {
			if r, e := record.Decode(x.s[:n]); !record.Same(r, api.Record{}) || e != api.ErrShort {
				t.Errorf("Decode of the first %d bytes of %q: %v, %v", n, x.s, r, e)
			}
		}
	}
}

// sized is bytes behind how many they are; of fewer than 64.
func sized(s string) string { return string([]byte{byte(2 * len(s))}) + s }

// P7.3
func TestDecodeOfWrongBytes(t *testing.T) {
	for _, x := range []struct {
		s string
		e api.Errno
	}{
		{"\x01", api.ErrLength}, {"\x03\x00", api.ErrLength}, {"\x80\x00", api.ErrVarint}, {"\xFF\xFF\xFF\xFF\x10", api.ErrVarint}, {"\xFE\xFF\xFF\xFF\x0F\x00", api.ErrShort},
		{"\x0A\x00\x00\x00\x01\x01\x00", api.ErrShort}, // a byte too few is told
		{"\x0E\x00\x00\x00\x01\x01\x00\x00", api.ErrLong},
		{sized(""), api.ErrShort}, {sized("\x00"), api.ErrShort}, {sized("\x00\x00"), api.ErrShort}, {sized("\x00\x00\x00\x00"), api.ErrShort}, {sized("\x00\x00\x00\x00\x00"), api.ErrShort},
		{sized("\x01\x00\x00\x00\x00\x00"), api.ErrAttr}, {sized("\xFF\x00\x00\x00\x00\x00"), api.ErrAttr}, {sized("\x80"), api.ErrAttr}, {sized("\x01\x80\x00"), api.ErrAttr},
		{sized("\x00\x80\x00\x00\x00\x00\x00"), api.ErrVarint},                                 // of Time
		{sized("\x00\xFF\xFF\xFF\xFF\xFF\xFF\xFF\xFF\xFF\x02\x00\x00\x00\x00"), api.ErrVarint}, //
		{sized("\x00\x00\x80\x00\x00\x00\x00"), api.ErrVarint},                                 // of Offset
		{sized("\x00\x00\x80\x80\x80\x80\x10\x00\x00\x00"), api.ErrVarint},                     //
		{sized("\x00\x00\x01\x00\x00\x00"), api.ErrRange}, {sized("\x00\x00\xFF\xFF\xFF\xFF\x0F\x00\x00\x00"), api.ErrRange}, {sized("\x00\x00\x01\x03"), api.ErrRange}, {sized("\x00\x00\x03"), api.ErrRange},
		{sized("\x00\x80\x00\x01\x00\x00\x00"), api.ErrVarint},                                                                                        // ahead of an Offset below 0
		{sized("\x00\x00\x00\x03\x00\x00"), api.ErrLength}, {sized("\x00\x00\x00\x02"), api.ErrShort}, {sized("\x00\x00\x00\x80\x00"), api.ErrVarint}, // of Key
		{sized("\x00\x00\x00\x01\x03\x00"), api.ErrLength}, {sized("\x00\x00\x00\x01\x08abc"), api.ErrShort}, {sized("\x00\x00\x00\x01\x80\x00"), api.ErrVarint}, // of Value
		{sized("\x00\x00\x00\x01\x01\x01"), api.ErrLength}, {sized("\x00\x00\x00\x01\x01\x02"), api.ErrShort}, {sized("\x00\x00\x00\x01\x01\x02\x01\x00"), api.ErrLength}, // of Headers
		{sized("\x00\x00\x00\x01\x01\x00\x00"), api.ErrLong}, {sized("\x00\x00\x00\x01\x01\x00\x03\x05"), api.ErrLong},
		{sized("\x01\x00\x00\x01\x01\x00\x00") + "z", api.ErrAttr}, // ahead of what is behind it
		{sized("\x00\x00\x00\x01\x01\x00\x00") + "z", api.ErrLong},
		{"\x0E\x00\x00\x00\x00\x02ab", api.ErrShort}, // headers reach no further than their record
		{"\x0A\x00\x00\x00\x00\x08abcd", api.ErrShort},
	} {
		if r, e := record.Decode(x.s); !record.Same(r, api.Record{}) || e != x.e {
			t.Errorf("Decode of %q: %v, %v, not %v", x.s, r, e, x.e)
		}
		in := input.New(x.s)
		if r := record.Read(in); x.e != api.ErrLong && (!record.Same(r, api.Record{}) || in.Err() != x.e) {
			t.Errorf("Read of %q: %v, %v, not %v", x.s, r, in.Err(), x.e)
		}
	}
}

// P7.2, P7.3: bytes that are changed anywhere are refused, or just those of what is read.
func TestOneSpelling(t *testing.T) {
	check := func(s string) {
		r, e := record.Decode(s)
		if e != api.OK {
			return
		}
		if back, e := record.Encode(r); back != s || e != api.OK {
			t.Errorf("Decode of %q: %v, whose bytes are %q, %v", s, r, back, e)
		}
	}
	for _, x := range rows() {
		for i := range len(x.s) {
			for c := range 256 {
				check(x.s[:i] + string([]byte{byte(c)}) + x.s[i+1:])
			}
			for _, c := range []string{"\x00", "\x01", "\x02", "\x80", "\xFF"} {
				check(sized(x.s[1:max(i, 1)] + c + x.s[max(i, 1):]))
				check(sized(x.s[1:max(i, 1)] + x.s[max(i, 2):]))
			}
		}
	}
}

// P7.1
func TestSame(t *testing.T) {
	full := func() api.Record {
		return api.Record{Time: 1, Offset: 2, Key: blob.Of("k"), Value: blob.Of("v"), Headers: headers(api.Header{Key: "a", Value: blob.Of("b")}, api.Header{Key: "c", Value: none})}
	}
	if !record.Same(full(), full()) || !record.Same(api.Record{}, api.Record{Headers: headers()}) {
		t.Error("the same ones aren't")
	}
	for i, change := range []func(*api.Record){
		func(r *api.Record) { r.Time = 2 },
		func(r *api.Record) { r.Offset = 1 },
		func(r *api.Record) { r.Key = blob.Of("l") },
		func(r *api.Record) { r.Key = none },
		func(r *api.Record) { r.Key.Null = true },
		func(r *api.Record) { r.Value = blob.Of("") },
		func(r *api.Record) { r.Value.Null = true },
		func(r *api.Record) { r.Headers = nil },
		func(r *api.Record) { r.Headers = r.Headers[:1] },
		func(r *api.Record) { r.Headers = append(r.Headers, api.Header{}) },
		func(r *api.Record) { r.Headers[0].Key = "d" },
		func(r *api.Record) { r.Headers[0].Value = blob.Of("e") },
		func(r *api.Record) { r.Headers[1].Value = blob.Of("") },
		func(r *api.Record) { slices.Reverse(r.Headers) },
	} {
		r := full()
		change(&r)
		if record.Same(r, full()) || record.Same(full(), r) || !record.Same(r, r) {
			t.Error("others are the same", i)
		}
	}
}

// P1, P2: once something went wrong, nothing is read or written; what is read is new memory.
func TestNothingHappensOnceSomethingWentWrong(t *testing.T) {
	s := "\x12\x00\x00\x00\x00\x00\x02\x02h\x01"
	in := input.New(s)
	in.Fail(api.ErrSum)
	if r := record.Read(in); !record.Same(r, api.Record{}) || in.Err() != api.ErrSum || in.At() != 0 {
		t.Error("a record was read", r, in.Err())
	}
	var out output.Output
	out.Fail(api.ErrSum)
	record.Write(&out, api.Record{})
	record.Write(&out, api.Record{Offset: -1})
	if out.Err() != api.ErrSum || out.Len() != 0 {
		t.Error("a record was written", out.Err())
	}
	first, _ := record.Decode(s)
	first.Headers[0] = api.Header{Key: "x"}
	if second, _ := record.Decode(s); second.Headers[0] != (api.Header{Key: "h", Value: none}) {
		t.Error("two answers share memory", second)
	}
}
