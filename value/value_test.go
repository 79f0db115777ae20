package value_test

import (
	"math"
	"slices"
	"strings"
	"testing"

	"cursitor/api"
	"cursitor/input"
	"cursitor/output"
	"cursitor/value"
)

var longest = strings.Repeat("x", 32767)

func empty() api.Value { return api.Value{Started: -1} }

// ongoing is a value with topics.
func ongoing() api.Value {
	return api.Value{
		Producer: 0x0102030405060708, Epoch: 0x1112, Timeout: 0x21222324, State: value.Ongoing,
		Topics:  []api.Topic{{Name: "a", Parts: []int{0, 1, 1<<31 - 1}}, {Name: "ab", Parts: []int{5}}},
		Updated: 0x3132333435363738, Started: 0x4142434445464748,
	}
}

const (
	topicsBytes = "\x00\x00\x00\x02" + "\x00\x01a\x00\x00\x00\x03\x00\x00\x00\x00\x00\x00\x00\x01\x7F\xFF\xFF\xFF" + "\x00\x02ab\x00\x00\x00\x01\x00\x00\x00\x05"
	// aheadBytes is what stands ahead of the state.
	aheadBytes   = "\x00\x00" + "\x01\x02\x03\x04\x05\x06\x07\x08" + "\x11\x12" + "\x21\x22\x23\x24"
	behindBytes  = "\x31\x32\x33\x34\x35\x36\x37\x38" + "\x41\x42\x43\x44\x45\x46\x47\x48"
	ongoingBytes = aheadBytes + "\x01" + topicsBytes + behindBytes
)

// P14.1
func TestIdle(t *testing.T) {
	if value.Empty != 0 || value.Ongoing != 1 || value.PrepareCommit != 2 || value.PrepareAbort != 3 || value.CompleteCommit != 4 || value.CompleteAbort != 5 || value.Dead != 6 {
		t.Error("a state's number is another one")
	}
	for state, want := range []bool{true, false, false, false, true, true, true} {
		if value.Idle(state) != want {
			t.Errorf("Idle(%d) isn't %v", state, want)
		}
	}
	for _, state := range []int{-1, 7, math.MinInt, math.MaxInt} {
		value.Idle(state) // of which nothing is promised, but that it ends
	}
}

// change is a way to make another value of one, and what Check says of it then.
type change struct {
	do func(*api.Value)
	e  api.Errno
}

// check holds Check, Encode and Decode of changed values against what is said of them.
func check(t *testing.T, from func() api.Value, l []change) {
	t.Helper()
	for i, x := range l {
		v := from()
		x.do(&v)
		if e := value.Check(v); e != x.e {
			t.Errorf("Check of the %dth: %v, not %v", i, e, x.e)
		}
		s, e := value.Encode(v)
		if e != x.e || x.e != api.OK && s != "" {
			t.Errorf("Encode of the %dth: %q, %v, not %v", i, s, e, x.e)
		}
		if back, e := value.Decode(s); x.e == api.OK && (e != api.OK || !value.Same(back, v)) {
			t.Errorf("the %dth, and back: %v, %v", i, back, e)
		}
	}
}

// P14.1
func TestNumbers(t *testing.T) {
	check(t, ongoing, []change{
		{func(v *api.Value) {}, api.OK},
		{func(v *api.Value) { v.Producer = -1 }, api.ErrRange},
		{func(v *api.Value) { v.Producer = math.MinInt }, api.ErrRange},
		{func(v *api.Value) { v.Producer = 0 }, api.OK},
		{func(v *api.Value) { v.Producer = math.MaxInt }, api.OK},
		{func(v *api.Value) { v.Epoch = -1 }, api.ErrRange},
		{func(v *api.Value) { v.Epoch = 0 }, api.OK},
		{func(v *api.Value) { v.Epoch = 1<<15 - 1 }, api.OK},
		{func(v *api.Value) { v.Epoch = 1 << 15 }, api.ErrRange},
		{func(v *api.Value) { v.Timeout = -1 }, api.ErrRange},
		{func(v *api.Value) { v.Timeout = 0 }, api.OK},
		{func(v *api.Value) { v.Timeout = 1<<31 - 1 }, api.OK},
		{func(v *api.Value) { v.Timeout = 1 << 31 }, api.ErrRange},
		{func(v *api.Value) { v.Updated = -1 }, api.ErrRange},
		{func(v *api.Value) { v.Updated = 0 }, api.OK},
		{func(v *api.Value) { v.Updated = math.MaxInt }, api.OK},
		{func(v *api.Value) { v.Started = -2 }, api.ErrRange},
		{func(v *api.Value) { v.Started = math.MinInt }, api.ErrRange},
		{func(v *api.Value) { v.Started = 0 }, api.OK},
		{func(v *api.Value) { v.Started = math.MaxInt }, api.OK},
		{func(v *api.Value) { v.Started, v.State = -2, 7 }, api.ErrRange},
		{func(v *api.Value) { v.Epoch, v.Topics = -1, nil }, api.ErrRange},
	})
}

// P14.1
func TestStates(t *testing.T) {
	for state := range 7 {
		idle := state == 0 || state >= 4
		for _, started := range []int{-1, 0} {
			for _, topics := range [][]api.Topic{nil, {}, {{Name: "a", Parts: []int{0}}}, {{}}} {
				e := api.OK
				if idle != (len(topics) == 0) || (state == 0) != (started == -1) {
					e = api.ErrCount
				} else if len(topics) > 0 && topics[0].Name == "" {
					e = api.ErrOrder
				}
				check(t, empty, []change{{func(v *api.Value) { v.State, v.Started, v.Topics = state, started, topics }, e}})
			}
		}
	}
	check(t, ongoing, []change{
		{func(v *api.Value) { v.State = -1 }, api.ErrKind},
		{func(v *api.Value) { v.State = 7 }, api.ErrKind},
		{func(v *api.Value) { v.State = math.MinInt }, api.ErrKind},
		{func(v *api.Value) { v.State = math.MaxInt }, api.ErrKind},
		{func(v *api.Value) { v.State, v.Topics, v.Started = 7, nil, -1 }, api.ErrKind},
		{func(v *api.Value) { v.State, v.Topics[0].Name = -1, "" }, api.ErrKind},
		{func(v *api.Value) { v.Started, v.Topics[0].Name = -1, "" }, api.ErrCount},
		{func(v *api.Value) { v.State = value.PrepareCommit }, api.OK},
		{func(v *api.Value) { v.State = value.PrepareAbort }, api.OK},
		{func(v *api.Value) { v.State = value.Dead }, api.ErrCount},
	})
}

// P14.1
func TestTopicsRise(t *testing.T) {
	check(t, ongoing, []change{
		{func(v *api.Value) { v.Topics[0].Name = "" }, api.ErrOrder},
		{func(v *api.Value) { v.Topics[0].Name = "ab" }, api.ErrOrder},
		{func(v *api.Value) { v.Topics[0].Name = "b" }, api.ErrOrder},
		{func(v *api.Value) { v.Topics[1].Name = "" }, api.ErrOrder},
		{func(v *api.Value) { v.Topics[1].Name = "A" }, api.ErrOrder},
		{func(v *api.Value) { v.Topics[1].Name = "\xFF" }, api.OK},
		{func(v *api.Value) { v.Topics[1].Name = longest }, api.OK},
		{func(v *api.Value) { v.Topics[1].Name = longest + "x" }, api.ErrOrder},
		{func(v *api.Value) { v.Topics = v.Topics[1:]; v.Topics[0].Name = longest + "x" }, api.ErrOrder},
		{func(v *api.Value) { v.Topics[0].Parts = nil }, api.ErrOrder},
		{func(v *api.Value) { v.Topics[1].Parts = []int{} }, api.ErrOrder},
		{func(v *api.Value) { v.Topics[0].Parts[0] = -1 }, api.ErrOrder},
		{func(v *api.Value) { v.Topics[0].Parts[0] = 1 }, api.ErrOrder},
		{func(v *api.Value) { v.Topics[0].Parts[0] = 2 }, api.ErrOrder},
		{func(v *api.Value) { v.Topics[0].Parts[1] = 0 }, api.ErrOrder},
		{func(v *api.Value) { v.Topics[0].Parts[2] = 1 }, api.ErrOrder},
		{func(v *api.Value) { v.Topics[0].Parts[2] = 1 << 31 }, api.ErrOrder},
		{func(v *api.Value) { v.Topics[0].Parts[1] = 1 << 31 }, api.ErrOrder},
		{func(v *api.Value) { v.Topics[1].Parts[0] = 1 << 31 }, api.ErrOrder},
		{func(v *api.Value) { v.Topics[1].Parts[0] = 0 }, api.OK},
		{func(v *api.Value) { v.Topics[1].Parts = []int{0, 7, 8, 3} }, api.ErrOrder},
		{func(v *api.Value) { v.Topics = append(v.Topics, v.Topics[0]) }, api.ErrOrder},
		{func(v *api.Value) { v.Topics = append(v.Topics, api.Topic{Name: "abc", Parts: []int{0}}) }, api.OK},
	})
}

// P14.2
func TestTopicsAsBytes(t *testing.T) {
	for _, x := range []struct {
		l []api.Topic
		s string
	}{
		{nil, "\x00\x00\x00\x00"},
		{ongoing().Topics, topicsBytes},
		{[]api.Topic{{Name: "b", Parts: []int{-1}}, {Name: "a", Parts: []int{2, 1, -1 << 31}}, {}}, "\x00\x00\x00\x03" + "\x00\x01b\x00\x00\x00\x01\xFF\xFF\xFF\xFF" + "\x00\x01a\x00\x00\x00\x03\x00\x00\x00\x02\x00\x00\x00\x01\x80\x00\x00\x00" + "\x00\x00\x00\x00\x00\x00"}, // whether they rise isn't asked
		{[]api.Topic{{Name: longest}}, "\x00\x00\x00\x01\x7F\xFF" + longest + "\x00\x00\x00\x00"},
	} {
		var out output.Output
		out.Byte('<')
		value.PutTopics(&out, x.l)
		if s, e := out.Text(); s != "<"+x.s || e != api.OK {
			t.Errorf("PutTopics of %.60v: %.60q, %v", x.l, s, e)
		}
		for _, more := range []string{"", "z"} {
			in := input.New(x.s + more)
			if l := value.Topics(in); !value.SameTopics(l, x.l) || in.At() != len(x.s) || in.Err() != api.OK {
				t.Errorf("Topics of %.60q: %.60v, %v", x.s, l, in.Err())
			}
		}
		for n := range min(len(x.s), 50) {
			in := input.New(x.s[:n])
			if l := value.Topics(in); len(l) != 0 || in.Err() != api.ErrShort {
				t.Errorf("Topics of %d bytes: %.60v, %v", n, l, in.Err())
			}
		}
	}
}

// P14.2
func TestTopicsOfWrongBytes(t *testing.T) {
	for _, x := range []struct {
		s string
		e api.Errno
	}{
		{"\xFF\xFF\xFF\xFF", api.ErrLength},
		{"\x80\x00\x00\x00\x00\x00\x00\x00\x00\x00", api.ErrLength},
		{"\x00\x00\x00\x01\xFF\xFF\x00\x00\x00", api.ErrShort}, // fewer than six bytes a topic, whatever they are
		{"\x00\x00\x00\x02\xFF\xFF\x00\x00\x00\x00\x00\x00\x00\x00\x00", api.ErrShort},
		{"\x7F\xFF\xFF\xFF\x00\x00\x00\x00\x00\x00", api.ErrShort},
		{"\x00\x00\x00\x01\xFF\xFF\x00\x00\x00\x00", api.ErrLength},
		{"\x00\x00\x00\x01\xFF\xFE\x00\x00\x00\x00", api.ErrLength},
		{"\x00\x00\x00\x01\x00\x04abcd", api.ErrShort},
		{"\x00\x00\x00\x01\x00\x09abcd", api.ErrShort},
		{"\x00\x00\x00\x01\x00\x00\xFF\xFF\xFF\xFF", api.ErrLength},
		{"\x00\x00\x00\x01\x00\x00\x00\x00\x00\x01\x00\x00\x00", api.ErrShort},
		{"\x00\x00\x00\x01\x00\x00\x00\x00\x00\x02\x00\x00\x00\x00\x00\x00\x00", api.ErrShort},
		{"\x00\x00\x00\x02\x00\x00\x00\x00\x00\x01\x00\x00\x00\x05\xFF\xFF", api.ErrLength},
	} {
		in := input.New(x.s)
		if l := value.Topics(in); len(l) != 0 || in.Err() != x.e {
			t.Errorf("Topics of %q: %v, %v, not %v", x.s, l, in.Err(), x.e)
		}
	}
}

// P14.3
func TestEncodeAndDecode(t *testing.T) {
	for _, x := range []struct {
		v api.Value
		s string
	}{
		{empty(), strings.Repeat("\x00", 29) + strings.Repeat("\xFF", 8)},
		{ongoing(), ongoingBytes},
		{api.Value{State: value.Dead}, strings.Repeat("\x00", 16) + "\x06" + strings.Repeat("\x00", 20)},
		{
			api.Value{Producer: math.MaxInt, Epoch: 1<<15 - 1, Timeout: 1<<31 - 1, State: value.CompleteAbort, Updated: math.MaxInt, Started: math.MaxInt},
			"\x00\x00\x7F\xFF\xFF\xFF\xFF\xFF\xFF\xFF\x7F\xFF\x7F\xFF\xFF\xFF\x05\x00\x00\x00\x00\x7F\xFF\xFF\xFF\xFF\xFF\xFF\xFF\x7F\xFF\xFF\xFF\xFF\xFF\xFF\xFF",
		},
	} {
		if s, e := value.Encode(x.v); s != x.s || e != api.OK {
			t.Errorf("Encode of %v: %q, %v", x.v, s, e)
		}
		if v, e := value.Decode(x.s); !value.Same(v, x.v) || e != api.OK {
			t.Errorf("Decode of %q: %v, %v", x.s, v, e)
		}
		if v, e := value.Decode(x.s + "z"); !value.Same(v, api.Value{}) || e != api.ErrLong {
			t.Errorf("Decode of %q and more: %v, %v", x.s, v, e)
		}
		for n := range len(x.s) {
			if v, e := value.Decode(x.s[:n]); !value.Same(v, api.Value{}) || e != api.ErrShort {
				t.Errorf("Decode of %d bytes: %v, %v", n, v, e)
			}
		}
	}
}

// P14.3
func TestDecodeOfWrongBytes(t *testing.T) {
	below := "\xFF\xFF\xFF\xFF\xFF\xFF\xFF\xFE"
	for _, x := range []struct {
		s string
		e api.Errno
	}{
		{"\x00\x01", api.ErrVersion},
		{"\x00\x01" + ongoingBytes[2:], api.ErrVersion},
		{"\x01\x00" + ongoingBytes[2:], api.ErrVersion},
		{"\xFF\xFF" + ongoingBytes[2:] + "z", api.ErrVersion},
		{aheadBytes + "\x01" + "\xFF\xFF\xFF\xFF" + behindBytes, api.ErrLength},
		{aheadBytes + "\x01" + "\x00\x00\x00\x01\xFF\xFF\x00\x00\x00\x00" + behindBytes, api.ErrLength},
		{aheadBytes + "\x01" + "\x7F\xFF\xFF\xFF" + behindBytes, api.ErrShort},
		{aheadBytes + "\x07" + topicsBytes + behindBytes, api.ErrKind},
		{aheadBytes + "\xFF" + topicsBytes + behindBytes, api.ErrKind},
		{aheadBytes + "\x07" + topicsBytes + behindBytes + "z", api.ErrLong}, // ahead of Check
		{aheadBytes + "\x07" + "\xFF\xFF\xFF\xFF" + behindBytes + "z", api.ErrLength},
		{aheadBytes + "\x00" + topicsBytes + behindBytes, api.ErrCount},
		{aheadBytes + "\x04" + topicsBytes + behindBytes, api.ErrCount},
		{aheadBytes + "\x01" + "\x00\x00\x00\x00" + behindBytes, api.ErrCount},
		{aheadBytes + "\x00" + "\x00\x00\x00\x00" + behindBytes, api.ErrCount},
		{aheadBytes + "\x01" + "\x00\x00\x00\x01\x00\x00\x00\x00\x00\x00" + behindBytes, api.ErrOrder},
		{aheadBytes + "\x01" + "\x00\x00\x00\x01\x00\x01a\x00\x00\x00\x01\xFF\xFF\xFF\xFF" + behindBytes, api.ErrOrder},
		{aheadBytes + "\x01" + topicsBytes + below + behindBytes[8:], api.ErrRange},
		{aheadBytes + "\x01" + topicsBytes + behindBytes[:8] + below, api.ErrRange},
		{aheadBytes[:2] + below + aheadBytes[10:] + "\x01" + topicsBytes + behindBytes, api.ErrRange},
		{aheadBytes[:10] + "\xFF\xFF" + aheadBytes[12:] + "\x01" + topicsBytes + behindBytes, api.ErrRange},
		{aheadBytes[:12] + "\x80\x00\x00\x00" + "\x01" + topicsBytes + behindBytes, api.ErrRange},
		{aheadBytes[:12] + "\x80\x00\x00\x00" + "\x09" + topicsBytes + behindBytes, api.ErrRange},
	} {
		if v, e := value.Decode(x.s); !value.Same(v, api.Value{}) || e != x.e {
			t.Errorf("Decode of %q: %v, %v, not %v", x.s, v, e, x.e)
		}
	}
}

// P14.3: bytes that are changed anywhere are refused, or just those of what is read.
func TestOneSpelling(t *testing.T) {
	first, _ := value.Encode(empty())
	for _, s := range []string{first, ongoingBytes} {
		for i := range len(s) {
			for c := range 256 {
				changed := s[:i] + string([]byte{byte(c)}) + s[i+1:]
				v, e := value.Decode(changed)
				if back, f := value.Encode(v); e == api.OK && (back != changed || f != api.OK) {
					t.Errorf("Decode of %q: %v, whose bytes are %q, %v", changed, v, back, f)
				}
			}
		}
	}
}

// P14.4
func TestSame(t *testing.T) {
	if !value.Same(ongoing(), ongoing()) || !value.SameTopics(ongoing().Topics, ongoing().Topics) || !value.SameTopics(nil, []api.Topic{}) ||
		!value.SameTopics([]api.Topic{{Name: "a"}}, []api.Topic{{Name: "a", Parts: []int{}}}) || !value.Same(api.Value{}, api.Value{Topics: []api.Topic{}}) {
		t.Error("the same ones aren't")
	}
	for i, x := range []struct {
		do     func(*api.Value)
		topics bool // whether other topics are made
	}{
		{func(v *api.Value) { v.Producer++ }, false},
		{func(v *api.Value) { v.Epoch++ }, false},
		{func(v *api.Value) { v.Timeout++ }, false},
		{func(v *api.Value) { v.State++ }, false},
		{func(v *api.Value) { v.Updated++ }, false},
		{func(v *api.Value) { v.Started++ }, false},
		{func(v *api.Value) { v.Topics = nil }, true},
		{func(v *api.Value) { v.Topics = v.Topics[:1] }, true},
		{func(v *api.Value) { v.Topics = append(v.Topics, api.Topic{}) }, true},
		{func(v *api.Value) { v.Topics[1].Name = "ac" }, true},
		{func(v *api.Value) { v.Topics[0].Name = "" }, true},
		{func(v *api.Value) { v.Topics[1].Parts = nil }, true},
		{func(v *api.Value) { v.Topics[0].Parts[1] = 2 }, true},
		{func(v *api.Value) { v.Topics[0].Parts = v.Topics[0].Parts[:2] }, true},
		{func(v *api.Value) { slices.Reverse(v.Topics) }, true},
	} {
		v := ongoing()
		x.do(&v)
		if value.Same(v, ongoing()) || value.Same(ongoing(), v) || !value.Same(v, v) {
			t.Error("others are the same", i)
		}
		if value.SameTopics(v.Topics, ongoing().Topics) == x.topics || value.SameTopics(ongoing().Topics, v.Topics) == x.topics {
			t.Error("SameTopics", i)
		}
	}
}

// P1, P2: what is handed in isn't changed, what is answered is new memory; once something went wrong, nothing is read or written.
func TestMemory(t *testing.T) {
	v := ongoing()
	value.Encode(v)
	value.Check(v)
	value.Same(v, v)
	if !value.Same(v, ongoing()) {
		t.Error("a value was changed")
	}
	first, _ := value.Decode(ongoingBytes)
	first.Topics[0].Parts[0] = 9
	first.Topics[0].Parts = append(first.Topics[0].Parts[:1], 8, 8, 8, 8)
	if first.Topics[1].Parts[0] != 5 {
		t.Error("two lists of an answer share memory")
	}
	if second, _ := value.Decode(ongoingBytes); !value.Same(second, ongoing()) {
		t.Error("two answers share memory")
	}
	in := input.New(topicsBytes)
	in.Fail(api.ErrSum)
	if l := value.Topics(in); len(l) != 0 || in.Err() != api.ErrSum || in.At() != 0 {
		t.Error("topics were read", l, in.Err())
	}
	var out output.Output
	out.Fail(api.ErrSum)
	value.PutTopics(&out, v.Topics)
	if out.Len() != 0 || out.Err() != api.ErrSum {
		t.Error("topics were written", out.Err())
	}
	out = output.Output{}
	value.PutTopics(&out, []api.Topic{{Name: longest + "x", Parts: []int{math.MaxInt, math.MinInt}}}) // nothing is promised, but that it ends
}
