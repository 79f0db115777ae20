package request_test

import (
	"math"
	"strings"
	"testing"

	"cursitor/api"
	"cursitor/input"
	"cursitor/output"
	"cursitor/request"
)

var (
	none    = api.Blob{Null: true}
	longest = strings.Repeat("x", 32767)
)

func of(s string) api.Blob { return api.Blob{Data: s} }

// mays are Heads that may be, and their bytes.
var mays = []struct {
	h request.Head
	s string
}{
	{request.Head{Kind: 22, Version: 1, Number: 5, Client: none}, "\x00\x16\x00\x01\x00\x00\x00\x05\xFF\xFF"},
	{request.Head{Kind: 22}, "\x00\x16\x00\x00\x00\x00\x00\x00\x00\x00"},
	{request.Head{Kind: 0, Version: 3, Number: -1, Client: of("ab")}, "\x00\x00\x00\x03\xFF\xFF\xFF\xFF\x00\x02ab"},
	{request.Head{Kind: 0, Version: 4, Number: 1<<31 - 1, Client: of("\x00")}, "\x00\x00\x00\x04\x7F\xFF\xFF\xFF\x00\x01\x00"},
	{request.Head{Kind: 24, Number: -1 << 31, Client: none}, "\x00\x18\x00\x00\x80\x00\x00\x00\xFF\xFF"},
	{request.Head{Kind: 26, Number: 258, Client: of(longest)}, "\x00\x1A\x00\x00\x00\x00\x01\x02\x7F\xFF" + longest},
	{request.Head{Kind: 27, Version: 1, Client: of("\xFF")}, "\x00\x1B\x00\x01\x00\x00\x00\x00\x00\x01\xFF"},
}

// P17.1, P17.2
func TestHeadsThatMayBe(t *testing.T) {
	for i, x := range mays {
		if e := request.Check(x.h); e != api.OK {
			t.Errorf("Check of the %dth: %v", i, e)
		}
		var out output.Output
		out.Byte('<')
		request.Write(&out, x.h)
		if s, e := out.Text(); s != "<"+x.s || e != api.OK {
			t.Errorf("Write of the %dth: %.40q, %v", i, s, e)
		}
		in := input.New(x.s + "z")
		if h := request.Read(in); h != x.h || in.At() != len(x.s) || in.Err() != api.OK {
			t.Errorf("Read of the %dth: %.40v, %v", i, h, in.Err())
		}
		for n := range min(len(x.s), 20) {
			in := input.New(x.s[:n])
			if h := request.Read(in); h != (request.Head{}) || in.Err() != api.ErrShort {
				t.Errorf("Read of %d bytes: %.40v, %v", n, h, in.Err())
			}
		}
	}
}

// P17.1
func TestHeadsThatMayNotBe(t *testing.T) {
	wrong := api.Blob{Null: true, Data: "x"}
	for i, x := range []struct {
		h request.Head
		e api.Errno
	}{
		{request.Head{Kind: 21}, api.ErrKind},
		{request.Head{Kind: -1}, api.ErrKind},
		{request.Head{Kind: 1<<16 + 22}, api.ErrKind},
		{request.Head{Kind: math.MinInt, Version: -1, Number: 1 << 31, Client: wrong}, api.ErrKind},
		{request.Head{Kind: 22, Version: 2}, api.ErrVersion},
		{request.Head{Kind: 22, Version: -1}, api.ErrVersion},
		{request.Head{Kind: 0, Version: 2}, api.ErrVersion},
		{request.Head{Kind: 0, Version: 5}, api.ErrVersion},
		{request.Head{Kind: 24, Version: 1}, api.ErrVersion},
		{request.Head{Kind: 24, Version: 1, Number: 1 << 31, Client: wrong}, api.ErrVersion},
		{request.Head{Kind: 24, Number: 1 << 31}, api.ErrRange},
		{request.Head{Kind: 24, Number: -1<<31 - 1}, api.ErrRange},
		{request.Head{Kind: 24, Number: math.MinInt}, api.ErrRange},
		{request.Head{Kind: 24, Number: math.MaxInt, Client: wrong}, api.ErrRange},
		{request.Head{Kind: 24, Client: wrong}, api.ErrLength},
		{request.Head{Kind: 24, Client: of(longest + "x")}, api.ErrLength},
		{request.Head{Kind: 24, Client: of(longest + longest + longest)}, api.ErrLength},
	} {
		if e := request.Check(x.h); e != x.e {
			t.Errorf("Check of the %dth: %v, not %v", i, e, x.e)
		}
		var out output.Output
		request.Write(&out, x.h)
		if out.Err() != x.e {
			t.Errorf("Write of the %dth: %v, not %v", i, out.Err(), x.e)
		}
	}
}

// P17.2
func TestReadOfWrongBytes(t *testing.T) {
	for _, x := range []struct {
		s string
		e api.Errno
	}{
		{"\x00\x15\x00\x00\x00\x00\x00\x05\xFF\xFF", api.ErrKind},
		{"\x00\x15\x00\x00", api.ErrKind}, // ahead of what is read next
		{"\x00\x15\x00", api.ErrShort},
		{"\xFF\xFF\xFF\xFF\x00\x00\x00\x05\xFF\xFF", api.ErrKind},
		{"\x01\x16\x00\x00\x00\x00\x00\x05\xFF\xFF", api.ErrKind},
		{"\x00\x16\x00\x02\x00\x00\x00\x05\xFF\xFF", api.ErrVersion},
		{"\x00\x16\x00\x02", api.ErrVersion},
		{"\x00\x16\xFF\xFF\x00\x00\x00\x05\xFF\xFF", api.ErrVersion},
		{"\x00\x00\x00\x02\x00\x00\x00\x05\xFF\xFF", api.ErrVersion},
		{"\x00\x00\x00\x00\x00\x00\x00\x05\xFF\xFE", api.ErrVersion},
		{"\x00\x16\x00\x01\x00\x00\x00\x05\xFF\xFE", api.ErrLength},
		{"\x00\x16\x00\x01\x00\x00\x00\x05\x80\x00", api.ErrLength},
		{"\x00\x16\x00\x01\x00\x00\x00\x05\x00\x03ab", api.ErrShort},
	} {
		in := input.New(x.s)
		if h := request.Read(in); h != (request.Head{}) || in.Err() != x.e {
			t.Errorf("Read of %q: %v, %v, not %v", x.s, h, in.Err(), x.e)
		}
	}
}

// P1, P2: once something went wrong, nothing is read or written.
func TestNothingHappensOnceSomethingWentWrong(t *testing.T) {
	in := input.New(mays[0].s)
	in.Fail(api.ErrSum)
	if h := request.Read(in); h != (request.Head{}) || in.Err() != api.ErrSum || in.At() != 0 {
		t.Error("a Head was read", h, in.Err())
	}
	var out output.Output
	out.Fail(api.ErrSum)
	request.Write(&out, mays[0].h)
	request.Write(&out, request.Head{Kind: -1})
	if out.Err() != api.ErrSum || out.Len() != 0 {
		t.Error("a Head was written", out.Err())
	}
}
