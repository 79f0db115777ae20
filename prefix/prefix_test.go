package prefix_test

import (
	"math"
	"strings"
	"testing"

	"cursitor/api"
	"cursitor/input"
	"cursitor/output"
	"cursitor/prefix"
)

var some = prefix.Prefix{
	Base: 0x0102030405060708, Length: 0x11121314, Leader: 0x21222324, Sum: 0x31323334, Attr: 0x4142,
	Last: 0x51525354, First: 0x6162636465666768, Max: 0x7172737475767778,
	Producer: 0x0908070605040302, Epoch: 0x1918, Sequence: 0x29282726, Count: 0x39383736,
}

const someBytes = "\x01\x02\x03\x04\x05\x06\x07\x08" + "\x11\x12\x13\x14" + "\x21\x22\x23\x24" + "\x02" + "\x31\x32\x33\x34" + "\x41\x42" +
	"\x51\x52\x53\x54" + "\x61\x62\x63\x64\x65\x66\x67\x68" + "\x71\x72\x73\x74\x75\x76\x77\x78" +
	"\x09\x08\x07\x06\x05\x04\x03\x02" + "\x19\x18" + "\x29\x28\x27\x26" + "\x39\x38\x37\x36"

// rows are Prefixes, and their bytes.
var rows = []struct {
	p prefix.Prefix
	s string
}{
	{some, someBytes},
	{prefix.Prefix{Length: 49}, strings.Repeat("\x00", 11) + "\x31" + "\x00\x00\x00\x00\x02" + strings.Repeat("\x00", 44)},
	{
		prefix.Prefix{Base: -1, Length: 49, Leader: -1, Sum: 1<<32 - 1, Attr: -1, Last: -1, First: -1, Max: -1, Producer: -1, Epoch: -1, Sequence: -1},
		strings.Repeat("\xFF", 8) + "\x00\x00\x00\x31" + "\xFF\xFF\xFF\xFF\x02" + strings.Repeat("\xFF", 40) + "\x00\x00\x00\x00",
	},
	{
		prefix.Prefix{Base: math.MinInt, Length: 1<<31 - 1, Leader: -1 << 31, Sum: 1 << 31, Attr: -1 << 15, Last: -1 << 31, First: math.MinInt, Max: math.MinInt, Producer: math.MinInt, Epoch: -1 << 15, Sequence: -1 << 31, Count: 1<<31 - 1},
		"\x80\x00\x00\x00\x00\x00\x00\x00" + "\x7F\xFF\xFF\xFF" + "\x80\x00\x00\x00" + "\x02" + "\x80\x00\x00\x00" + "\x80\x00" +
			"\x80\x00\x00\x00" + "\x80\x00\x00\x00\x00\x00\x00\x00" + "\x80\x00\x00\x00\x00\x00\x00\x00" +
			"\x80\x00\x00\x00\x00\x00\x00\x00" + "\x80\x00" + "\x80\x00\x00\x00" + "\x7F\xFF\xFF\xFF",
	},
	{
		prefix.Prefix{Base: math.MaxInt, Length: 50, Leader: 1<<31 - 1, Sum: 1<<31 - 1, Attr: 1<<15 - 1, Last: 1<<31 - 1, First: math.MaxInt, Max: math.MaxInt, Producer: math.MaxInt, Epoch: 1<<15 - 1, Sequence: 1<<31 - 1, Count: 1},
		"\x7F\xFF\xFF\xFF\xFF\xFF\xFF\xFF" + "\x00\x00\x00\x32" + "\x7F\xFF\xFF\xFF" + "\x02" + "\x7F\xFF\xFF\xFF" + "\x7F\xFF" +
			"\x7F\xFF\xFF\xFF" + "\x7F\xFF\xFF\xFF\xFF\xFF\xFF\xFF" + "\x7F\xFF\xFF\xFF\xFF\xFF\xFF\xFF" +
			"\x7F\xFF\xFF\xFF\xFF\xFF\xFF\xFF" + "\x7F\xFF" + "\x7F\xFF\xFF\xFF" + "\x00\x00\x00\x01",
	},
}

// P10.1, P10.2
func TestConstants(t *testing.T) {
	if prefix.Size != 61 || prefix.Ahead != 12 || prefix.Unsaid != 21 || prefix.Magic != 2 || prefix.Least != 49 {
		t.Error("a constant is another one")
	}
}

// P10.1
func TestWrite(t *testing.T) {
	for i, x := range rows {
		var out output.Output
		out.Byte('<')
		prefix.Write(&out, x.p)
		if s, e := out.Text(); s != "<"+x.s || e != api.OK {
			t.Errorf("Write of the %dth: %q, %v", i, s, e)
		}
	}
	// What Read refuses can be written.
	for _, p := range []prefix.Prefix{{}, {Length: -1, Count: -1}, {Length: 48, Count: -1 << 31}} {
		var out output.Output
		prefix.Write(&out, p)
		if out.Len() != 61 || out.Err() != api.OK {
			t.Error("Write of", p, out.Err())
		}
	}
}

// field is one of a Prefix's numbers, and how many bits it has.
type field struct {
	of   func(*prefix.Prefix) *int
	bits int
}

func fields() []field {
	return []field{
		{func(p *prefix.Prefix) *int { return &p.Length }, 32}, {func(p *prefix.Prefix) *int { return &p.Leader }, 32}, {func(p *prefix.Prefix) *int { return &p.Attr }, 16},
		{func(p *prefix.Prefix) *int { return &p.Last }, 32}, {func(p *prefix.Prefix) *int { return &p.Epoch }, 16}, {func(p *prefix.Prefix) *int { return &p.Sequence }, 32}, {func(p *prefix.Prefix) *int { return &p.Count }, 32},
	}
}

// P10.1
func TestWriteOfNumbersThatDoNotFit(t *testing.T) {
	check := func(p prefix.Prefix) {
		t.Helper()
		var out output.Output
		prefix.Write(&out, p)
		if out.Err() != api.ErrRange {
			t.Error("Write of", p, out.Err())
		}
	}
	for _, f := range fields() {
		for _, n := range []int{1 << (f.bits - 1), -1<<(f.bits-1) - 1, 1 << f.bits, math.MaxInt, math.MinInt} {
			p := some
			*f.of(&p) = n
			check(p)
		}
	}
	for _, sum := range []int{-1, -1 << 31, 1 << 32, 1<<32 + 5, math.MaxInt, math.MinInt} {
		p := some
		p.Sum = sum
		check(p)
	}
}

// P10.2
func TestRead(t *testing.T) {
	for i, x := range rows {
		in := input.New(x.s + "z")
		if p := prefix.Read(in); p != x.p || in.At() != 61 || in.Err() != api.OK {
			t.Errorf("Read of the %dth: %v, %v", i, p, in.Err())
		}
		if n, e := prefix.Peek(x.s); n != x.p.Length+12 || e != api.OK {
			t.Errorf("Peek of the %dth: %d, %v", i, n, e)
		}
	}
}

// with is the bytes with others at some places: of the Length, of Magic, and of the Count.
func with(length, magic, count string) string {
	return someBytes[:8] + length + someBytes[12:16] + magic + someBytes[17:57] + count
}

// P10.2, P10.3
func TestReadOfWrongBytes(t *testing.T) {
	good, none := "\x00\x00\x00\x31", "\x00\x00\x00\x00"
	for _, x := range []struct {
		s string
		e api.Errno
	}{
		{with(good, "\x02", none), api.OK}, {with("\x7F\xFF\xFF\xFF", "\x02", "\x7F\xFF\xFF\xFF"), api.OK},
		{with(good, "\x00", none), api.ErrMagic}, {with(good, "\x01", none), api.ErrMagic}, {with(good, "\x03", none), api.ErrMagic}, {with(good, "\xFE", none), api.ErrMagic},
		{with("\x00\x00\x00\x30", "\x02", none), api.ErrLength}, {with(none, "\x02", none), api.ErrLength}, {with("\xFF\xFF\xFF\xFF", "\x02", none), api.ErrLength}, {with("\x80\x00\x00\x31", "\x02", none), api.ErrLength},
		{with(good, "\x02", "\xFF\xFF\xFF\xFF"), api.ErrCount}, {with(good, "\x02", "\x80\x00\x00\x00"), api.ErrCount},
		{with(none, "\x01", "\xFF\xFF\xFF\xFF"), api.ErrMagic}, {with(none, "\x02", "\xFF\xFF\xFF\xFF"), api.ErrLength}, {with(good, "\x01", "\xFF\xFF\xFF\xFF"), api.ErrMagic},
	} {
		for _, more := range []string{"", "z", x.s} {
			in := input.New(x.s + more)
			p := prefix.Read(in)
			if in.Err() != x.e || x.e != api.OK && p != (prefix.Prefix{}) {
				t.Errorf("Read of %q: %v, %v, not %v", x.s, p, in.Err(), x.e)
			}
			n, e := prefix.Peek(x.s + more)
			if e != x.e || x.e == api.OK && n != p.Length+12 || x.e != api.OK && n != 0 {
				t.Errorf("Peek of %q: %d, %v, not %v", x.s, n, e, x.e)
			}
		}
		for n := range 61 {
			in := input.New(x.s[:n])
			if p := prefix.Read(in); p != (prefix.Prefix{}) || in.Err() != api.ErrShort {
				t.Errorf("Read of %d bytes: %v, %v", n, p, in.Err())
			}
			if n, e := prefix.Peek(x.s[:n]); n != 0 || e != api.OK {
				t.Errorf("Peek of too few bytes: %d, %v", n, e)
			}
		}
	}
}

// P1, P2: once something went wrong, nothing is read or written.
func TestNothingHappensOnceSomethingWentWrong(t *testing.T) {
	in := input.New(someBytes)
	in.Fail(api.ErrKind)
	if p := prefix.Read(in); p != (prefix.Prefix{}) || in.Err() != api.ErrKind || in.At() != 0 {
		t.Error("a Prefix was read", p, in.Err())
	}
	var out output.Output
	out.Fail(api.ErrKind)
	prefix.Write(&out, some)
	prefix.Write(&out, prefix.Prefix{Sum: -1})
	if out.Err() != api.ErrKind || out.Len() != 0 {
		t.Error("a Prefix was written", out.Err())
	}
}
