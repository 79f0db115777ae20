package header_test

import (
	"slices"
	"strings"
	"testing"

	"cursitor/api"
	"cursitor/blob"
	"cursitor/header"
	"cursitor/input"
	"cursitor/output"
)

func of(key, value string) api.Header { return api.Header{Key: key, Value: blob.Of(value)} }

func none(key string) api.Header { return api.Header{Key: key, Value: blob.None()} }

// rows are headers, and their bytes.
func rows() []struct {
	l []api.Header
	s string
} {
	long := strings.Repeat("k", 64)
	many, bytes := []api.Header{}, "\x80\x01"
	for range 64 {
		many, bytes = append(many, of("", "")), bytes+"\x00\x00"
	}
	return []struct {
		l []api.Header
		s string
	}{
		{nil, "\x00"},
		{[]api.Header{none("a")}, "\x02\x02a\x01"},
		{[]api.Header{of("a", "")}, "\x02\x02a\x00"},
		{[]api.Header{of("", "")}, "\x02\x00\x00"},
		{[]api.Header{none("")}, "\x02\x00\x01"},
		{[]api.Header{of("a", "b"), of("a", "cd"), none("\xFF\x00")}, "\x06\x02a\x02b\x02a\x04cd\x04\xFF\x00\x01"},
		{[]api.Header{of("b", "1"), of("a", "2")}, "\x04\x02b\x021\x02a\x022"},
		{[]api.Header{of(long, long)}, "\x02\x80\x01" + long + "\x80\x01" + long},
		{many, bytes},
	}
}

// P6.1, P6.2
func TestWriteAndRead(t *testing.T) {
	for _, x := range rows() {
		var out output.Output
		out.Byte('<')
		roomy := append(make([]api.Header, 0, len(x.l)+2), x.l...)
		header.Write(&out, roomy...)
		header.Find(roomy, "a")
		if s, e := out.Text(); s != "<"+x.s || e != api.OK {
			t.Errorf("Write of %v: %q, %v", x.l, s, e)
		}
		if !slices.Equal(roomy, x.l) || roomy[:len(x.l)+1][len(x.l)] != (api.Header{}) {
			t.Errorf("%v was changed into %v", x.l, roomy)
		}
		in := input.New(x.s + "zzz")
		if l := header.Read(in); !slices.Equal(l, x.l) || in.At() != len(x.s) || in.Err() != api.OK {
			t.Errorf("Read of %q: %v, %v", x.s, l, in.Err())
		}
	}
}

// P6.1
func TestWriteOfWrongOnes(t *testing.T) {
	wrong := api.Header{Key: "a", Value: api.Blob{Null: true, Data: "b"}}
	for _, l := range [][]api.Header{{wrong}, {of("a", "b"), wrong}, {wrong, of("a", "b")}} {
		var out output.Output
		header.Write(&out, l...)
		if out.Err() != api.ErrLength {
			t.Errorf("Write of %v: %v", l, out.Err())
		}
	}
}

// P6.2
func TestReadOfWrongBytes(t *testing.T) {
	for _, x := range []struct {
		s string
		e api.Errno
	}{
		{"", api.ErrShort}, {"\x80", api.ErrShort}, {"\x80\x00", api.ErrVarint}, {"\xFF\xFF\xFF\xFF\x1F", api.ErrVarint},
		{"\x01\x00\x00", api.ErrLength}, {"\x03\x00\x00\x00\x00", api.ErrLength}, {"\xFF\xFF\xFF\xFF\x0F\x00\x00", api.ErrLength},
		{"\x02", api.ErrShort}, {"\x02\x00", api.ErrShort}, {"\x04\x00\x00\x00", api.ErrShort}, {"\x02\x04", api.ErrShort},
		{"\xFE\xFF\xFF\xFF\x0F\x00\x00\x00\x00", api.ErrShort},
		{"\x02\x01", api.ErrShort},              // too few bytes are told ahead of a Key that is none,
		{"\x04\x01\x00\x00", api.ErrShort},      // wherever it stands
		{"\x02\x80", api.ErrShort},              //
		{"\x02\x01\x00", api.ErrLength},         // a Key that is none
		{"\x02\x03\x00", api.ErrLength},         // a Key of less
		{"\x02\x00\x03", api.ErrLength},         // a Value of less than none
		{"\x02\x04ab", api.ErrShort},            // no Value is left
		{"\x02\x04a", api.ErrShort},             // half a Key
		{"\x02\x02a\x04b", api.ErrShort},        // half a Value
		{"\x02\x80\x00\x00", api.ErrVarint},     // a length with a needless digit
		{"\x02\x02a\x80\x00", api.ErrVarint},    //
		{"\x04\x00\x00\x01\x00", api.ErrLength}, // the second one
		{"\x04\x02a\x02b\x02c", api.ErrShort},
		{"\x04\x01\x80\x80\x00", api.ErrLength}, // the first thing that goes wrong
	} {
		in := input.New(x.s)
		if l := header.Read(in); len(l) != 0 || in.Err() != x.e {
			t.Errorf("Read of %q: %v, %v", x.s, l, in.Err())
		}
	}
}

// P6.3
func TestFind(t *testing.T) {
	l := []api.Header{of("a", "1"), none("b"), of("a", "2"), of("c", ""), of("", "3"), of("b", "4"), none("d")}
	for _, x := range []struct {
		key  string
		want api.Blob
		ok   bool
	}{
		{"a", blob.Of("2"), true}, {"b", blob.Of("4"), true}, {"c", blob.Of(""), true}, {"", blob.Of("3"), true}, {"d", blob.None(), true},
		{"e", api.Blob{}, false}, {"aa", api.Blob{}, false}, {"A", api.Blob{}, false}, {"a\x00", api.Blob{}, false},
	} {
		if b, ok := header.Find(l, x.key); b != x.want || ok != x.ok {
			t.Errorf("Find of %q: %v, %v", x.key, b, ok)
		}
	}
	if b, ok := header.Find(nil, ""); b != (api.Blob{}) || ok {
		t.Error("Find of nothing", b, ok)
	}
	wrong := api.Blob{Null: true, Data: "x"}
	if b, ok := header.Find([]api.Header{{Key: "a", Value: wrong}}, "a"); b != wrong || !ok {
		t.Error("Find of a Value that isn't Right", b, ok)
	}
}

// P1, P2: once something went wrong, nothing is read or written; what is read is new memory.
func TestNothingHappensOnceSomethingWentWrong(t *testing.T) {
	in := input.New("\x02\x00\x00")
	in.Fail(api.ErrSum)
	if l := header.Read(in); len(l) != 0 || in.Err() != api.ErrSum || in.At() != 0 {
		t.Error("headers were read", l, in.Err())
	}
	var out output.Output
	out.Fail(api.ErrSum)
	header.Write(&out, of("a", "b"))
	if out.Len() != 0 || out.Err() != api.ErrSum {
		t.Error("headers were written", out.Err())
	}
	s := "\x04\x02a\x02b\x02c\x02d"
	first := header.Read(input.New(s))
	first[0], first[1] = of("x", "y"), none("z")
	if second := header.Read(input.New(s)); second[0] != of("a", "b") || second[1] != of("c", "d") {
		t.Error("two answers share memory", second)
	}
}
