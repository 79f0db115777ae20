package key_test

import (
	"strings"
	"testing"

	"cursitor/api"
	"cursitor/key"
)

var longest = strings.Repeat("x", 32767)

// P13.1, P13.2
func TestNames(t *testing.T) {
	if key.MaxID != 32767 {
		t.Error("MaxID", key.MaxID)
	}
	for _, x := range []struct{ id, s string }{
		{"a", "\x00\x00\x00\x01a"},
		{"\x00", "\x00\x00\x00\x01\x00"},
		{"ab\xFF", "\x00\x00\x00\x03ab\xFF"},
		{longest[:256], "\x00\x00\x01\x00" + longest[:256]},
		{longest, "\x00\x00\x7F\xFF" + longest},
	} {
		if !key.Right(x.id) {
			t.Errorf("Right of %d bytes", len(x.id))
		}
		if s, e := key.Encode(x.id); s != x.s || e != api.OK {
			t.Errorf("Encode of %d bytes: %.20q, %v", len(x.id), s, e)
		}
		if id, e := key.Decode(x.s); id != x.id || e != api.OK {
			t.Errorf("Decode of %.20q: %.20q, %v", x.s, id, e)
		}
		if id, e := key.Decode(x.s + "z"); id != "" || e != api.ErrLong {
			t.Errorf("Decode of %.20q and more: %.20q, %v", x.s, id, e)
		}
		if id, e := key.Decode(x.s[:len(x.s)-1]); id != "" || e != api.ErrShort {
			t.Errorf("Decode of less than %.20q: %.20q, %v", x.s, id, e)
		}
	}
}

// P13.1
func TestWhatIsNoName(t *testing.T) {
	for _, id := range []string{"", longest + "x", longest + longest + longest} {
		if key.Right(id) {
			t.Errorf("Right of %d bytes", len(id))
		}
		if s, e := key.Encode(id); s != "" || e != api.ErrLength {
			t.Errorf("Encode of %d bytes: %.20q, %v", len(id), s, e)
		}
	}
}

// P13.2
func TestDecodeOfWrongBytes(t *testing.T) {
	for _, x := range []struct {
		s string
		e api.Errno
	}{
		{"", api.ErrShort},
		{"\x00", api.ErrShort},
		{"\x01", api.ErrShort},
		{"\x00\x00", api.ErrShort},
		{"\x00\x00\x00", api.ErrShort},
		{"\x00\x00\x00\x02a", api.ErrShort},
		{"\x00\x01", api.ErrVersion}, // ahead of what is read next
		{"\x00\x01\x00\x01a", api.ErrVersion},
		{"\x01\x00\x00\x01a", api.ErrVersion},
		{"\xFF\xFF\x00\x01a", api.ErrVersion},
		{"\x00\x01\x00\x00", api.ErrVersion},
		{"\x00\x01\x00\x01az", api.ErrVersion},
		{"\x00\x00\x00\x00", api.ErrLength},
		{"\x00\x00\x00\x00z", api.ErrLength},
		{"\x00\x00\xFF\xFF", api.ErrLength}, // none is no text
		{"\x00\x00\xFF\xFEab", api.ErrLength},
		{"\x00\x00\x80\x00", api.ErrLength},
		{"\x00\x00\x00\x01a\x00", api.ErrLong},
	} {
		if id, e := key.Decode(x.s); id != "" || e != x.e {
			t.Errorf("Decode of %q: %q, %v, not %v", x.s, id, e, x.e)
		}
	}
}
