package blob_test

import (
	"math"
	"strings"
	"testing"

	"cursitor/api"
	"cursitor/blob"
	"cursitor/input"
	"cursitor/output"
)

// wrong is a Blob that there can't be: none, and yet bytes.
var wrong = api.Blob{Null: true, Data: "a"}

// P4.1
func TestOfNoneRight(t *testing.T) {
	for _, s := range []string{"", "a", "\x00\xFF"} {
		if b := blob.Of(s); b != (api.Blob{Data: s}) || !blob.Right(b) {
			t.Errorf("Of(%q): %v", s, b)
		}
	}
	if b := blob.None(); b != (api.Blob{Null: true}) || !blob.Right(b) || b == blob.Of("") {
		t.Errorf("None: %v", b)
	}
	if blob.Right(wrong) {
		t.Error("none with bytes is Right")
	}
}

// written is what a call writes behind what stood there.
func written(put func(*output.Output)) (string, api.Errno) {
	var out output.Output
	out.Byte('<')
	put(&out)
	if out.Err() != api.OK {
		return "", out.Err()
	}
	s, e := out.Text()
	return s[1:], e
}

// P4.2, P4.3
func TestFixed(t *testing.T) {
	long := strings.Repeat("x", 32767)
	for _, x := range []struct {
		b    api.Blob
		size int
		want string
	}{
		{blob.None(), 1, "\xFF"}, {blob.None(), 2, "\xFF\xFF"}, {blob.None(), 4, "\xFF\xFF\xFF\xFF"}, {blob.None(), 8, "\xFF\xFF\xFF\xFF\xFF\xFF\xFF\xFF"},
		{blob.Of(""), 1, "\x00"}, {blob.Of(""), 2, "\x00\x00"}, {blob.Of(""), 4, "\x00\x00\x00\x00"},
		{blob.Of("a"), 1, "\x01a"}, {blob.Of("a\x00b"), 2, "\x00\x03a\x00b"}, {blob.Of("abc"), 3, "\x00\x00\x03abc"}, {blob.Of("abcd"), 4, "\x00\x00\x00\x04abcd"},
		{blob.Of(long[:127]), 1, "\x7F" + long[:127]}, {blob.Of(long), 2, "\x7F\xFF" + long}, {blob.Of(long + "y"), 4, "\x00\x00\x80\x00" + long + "y"},
	} {
		s, e := written(func(out *output.Output) { blob.PutFixed(out, x.b, x.size) })
		if s != x.want || e != api.OK {
			t.Errorf("PutFixed of %d bytes, %d: %.20q, %v", len(x.b.Data), x.size, s, e)
		}
		in := input.New(x.want + "z")
		if b := blob.Fixed(in, x.size); b != x.b || in.At() != len(x.want) || in.Err() != api.OK {
			t.Errorf("Fixed of %.20q: %d bytes, %v", x.want, len(b.Data), in.Err())
		}
	}
}

// P4.2
func TestPutFixedOfWrongOnes(t *testing.T) {
	long := strings.Repeat("x", 32768)
	for _, x := range []struct {
		b    api.Blob
		size int
		e    api.Errno
	}{
		{wrong, 1, api.ErrLength}, {wrong, 2, api.ErrLength}, {wrong, 4, api.ErrLength},
		{blob.Of(long), 2, api.ErrRange}, {blob.Of(long[:128]), 1, api.ErrRange},
		{blob.Of("a"), 0, api.ErrRange}, {blob.None(), 0, api.ErrRange}, {blob.None(), 9, api.ErrRange}, {blob.Of(""), -1, api.ErrRange},
		{blob.Of("a"), math.MaxInt, api.ErrRange}, {blob.Of("a"), math.MinInt, api.ErrRange},
	} {
		s, e := written(func(out *output.Output) { blob.PutFixed(out, x.b, x.size) })
		if s != "" || e != x.e {
			t.Errorf("PutFixed of %.20v, %d: %q, %v", x.b, x.size, s, e)
		}
	}
}

// P4.3
func TestFixedOfWrongBytes(t *testing.T) {
	for _, x := range []struct {
		s    string
		size int
		e    api.Errno
	}{
		{"", 1, api.ErrShort}, {"\x00", 2, api.ErrShort}, {"\xFF", 2, api.ErrShort}, {"\x00\x01", 2, api.ErrShort}, {"\x03ab", 1, api.ErrShort}, {"\x7F\xFF\xFF\xFFab", 4, api.ErrShort},
		{"\xFEab", 1, api.ErrLength}, {"\xFF\xFEab", 2, api.ErrLength}, {"\x80\x00ab", 2, api.ErrLength}, {"\xFF\xFF\xFF\x00", 4, api.ErrLength}, {"\x80\x00\x00\x00\x00\x00\x00\x00", 8, api.ErrLength},
		{"abc", 0, api.ErrLength}, {"abc", 9, api.ErrLength}, {"abc", -1, api.ErrLength}, {"", math.MaxInt, api.ErrLength}, {"", math.MinInt, api.ErrLength},
	} {
		in := input.New(x.s)
		if b := blob.Fixed(in, x.size); b != (api.Blob{}) || in.Err() != x.e {
			t.Errorf("Fixed(%d) of %q: %v, %v", x.size, x.s, b, in.Err())
		}
	}
}

// P4.2, P4.3
func TestVaried(t *testing.T) {
	long := strings.Repeat("x", 1<<16)
	for _, x := range []struct {
		b    api.Blob
		want string
	}{
		{blob.None(), "\x01"}, {blob.Of(""), "\x00"}, {blob.Of("a"), "\x02a"}, {blob.Of("\x00\xFF"), "\x04\x00\xFF"},
		{blob.Of(long[:63]), "\x7E" + long[:63]}, {blob.Of(long[:64]), "\x80\x01" + long[:64]}, {blob.Of(long), "\x80\x80\x08" + long},
	} {
		s, e := written(func(out *output.Output) { blob.PutVaried(out, x.b) })
		if s != x.want || e != api.OK {
			t.Errorf("PutVaried of %d bytes: %.20q, %v", len(x.b.Data), s, e)
		}
		in := input.New(x.want + "z")
		if b := blob.Varied(in); b != x.b || in.At() != len(x.want) || in.Err() != api.OK {
			t.Errorf("Varied of %.20q: %d bytes, %v", x.want, len(b.Data), in.Err())
		}
	}
	if s, e := written(func(out *output.Output) { blob.PutVaried(out, wrong) }); s != "" || e != api.ErrLength {
		t.Errorf("PutVaried of none with bytes: %q, %v", s, e)
	}
}

// wrongVaried is bytes that Varied and Name refuse likewise.
var wrongVaried = []struct {
	s string
	e api.Errno
}{
	{"", api.ErrShort}, {"\x80", api.ErrShort}, {"\x02", api.ErrShort}, {"\x06ab", api.ErrShort}, {"\xFE\xFF\xFF\xFF\x0Fab", api.ErrShort},
	{"\x03ab", api.ErrLength}, {"\x05ab", api.ErrLength}, {"\xFF\xFF\xFF\xFF\x0Fab", api.ErrLength},
	{"\x80\x00", api.ErrVarint}, {"\x81\x00a", api.ErrVarint}, {"\xFF\xFF\xFF\xFF\x10", api.ErrVarint}, {"\xFF\xFF\xFF\xFF\xFF\x01", api.ErrVarint},
}

// P4.3
func TestVariedOfWrongBytes(t *testing.T) {
	for _, x := range wrongVaried {
		in := input.New(x.s)
		if b := blob.Varied(in); b != (api.Blob{}) || in.Err() != x.e {
			t.Errorf("Varied of %q: %v, %v", x.s, b, in.Err())
		}
		in = input.New(x.s)
		if s := blob.Name(in); s != "" || in.Err() != x.e {
			t.Errorf("Name of %q: %q, %v", x.s, s, in.Err())
		}
	}
	in := input.New("\x01ab")
	if s := blob.Name(in); s != "" || in.Err() != api.ErrLength {
		t.Errorf("Name of none: %q, %v", s, in.Err())
	}
}

// P4.2, P4.3
func TestTextAndName(t *testing.T) {
	long := strings.Repeat("x", 32768)
	for _, x := range []struct{ s, text, name string }{
		{"", "\x00\x00", "\x00"}, {"a", "\x00\x01a", "\x02a"}, {"\xFF\x00", "\x00\x02\xFF\x00", "\x04\xFF\x00"},
		{long[1:], "\x7F\xFF" + long[1:], "\xFE\xFF\x03" + long[1:]},
	} {
		text, e := written(func(out *output.Output) { blob.PutText(out, x.s) })
		if text != x.text || e != api.OK {
			t.Errorf("PutText of %d bytes: %.20q, %v", len(x.s), text, e)
		}
		name, e := written(func(out *output.Output) { blob.PutName(out, x.s) })
		if name != x.name || e != api.OK {
			t.Errorf("PutName of %d bytes: %.20q, %v", len(x.s), name, e)
		}
		in := input.New(x.text + x.name)
		if a, b := blob.Text(in), blob.Name(in); a != x.s || b != x.s || in.Close() != api.OK {
			t.Errorf("Text, Name of %d bytes: %.20q, %.20q, %v", len(x.s), a, b, in.Err())
		}
	}
	if s, e := written(func(out *output.Output) { blob.PutText(out, long) }); s != "" || e != api.ErrRange {
		t.Errorf("PutText of 2^15 bytes: %.20q, %v", s, e)
	}
	if s, e := written(func(out *output.Output) { blob.PutName(out, long) }); s != "\x80\x80\x04"+long || e != api.OK {
		t.Errorf("PutName of 2^15 bytes: %.20q, %v", s, e)
	}
}

// P4.3
func TestTextOfWrongBytes(t *testing.T) {
	for _, x := range []struct {
		s string
		e api.Errno
	}{
		{"", api.ErrShort}, {"\x00", api.ErrShort}, {"\x00\x03ab", api.ErrShort},
		{"\xFF\xFFab", api.ErrLength}, {"\xFF\xFEab", api.ErrLength}, {"\x80\x00ab", api.ErrLength},
	} {
		in := input.New(x.s)
		if s := blob.Text(in); s != "" || in.Err() != x.e {
			t.Errorf("Text of %q: %q, %v", x.s, s, in.Err())
		}
	}
}

// P1, P2: once something went wrong, nothing is read or written, and that stays so.
func TestNothingHappensOnceSomethingWentWrong(t *testing.T) {
	for i, read := range []func(*input.Input) bool{
		func(in *input.Input) bool { return blob.Fixed(in, 1) == api.Blob{} },
		func(in *input.Input) bool { return blob.Fixed(in, 0) == api.Blob{} },
		func(in *input.Input) bool { return blob.Varied(in) == api.Blob{} },
		func(in *input.Input) bool { return blob.Text(in) == "" },
		func(in *input.Input) bool { return blob.Name(in) == "" },
	} {
		in := input.New("\x00\x00\x00")
		in.Fail(api.ErrSum)
		if !read(in) || in.Err() != api.ErrSum || in.At() != 0 {
			t.Error("something was read", i, in.Err())
		}
	}
	var out output.Output
	out.Fail(api.ErrSum)
	blob.PutFixed(&out, wrong, 1)
	blob.PutFixed(&out, blob.Of("a"), 9)
	blob.PutVaried(&out, wrong)
	blob.PutText(&out, "a")
	blob.PutName(&out, "a")
	if out.Err() != api.ErrSum || out.Len() != 0 {
		t.Error("something was written", out.Len(), out.Err())
	}
}
