package frame_test

import (
	"slices"
	"strings"
	"testing"

	"cursitor/api"
	"cursitor/batch"
	"cursitor/frame"
	"cursitor/input"
	"cursitor/mark"
	"cursitor/produce"
	"cursitor/request"
	"cursitor/txn"
	"cursitor/value"
)

var none = api.Blob{Null: true}

func of(s string) api.Blob { return api.Blob{Data: s} }

// same tells whether two frames have the same fields, all bodies, too.
func same(a, b frame.Frame) bool {
	return a.Head == b.Head && a.Begin == b.Begin && a.End == b.End &&
		a.Add.ID == b.Add.ID && a.Add.Producer == b.Add.Producer && a.Add.Epoch == b.Add.Epoch && value.SameTopics(a.Add.Topics, b.Add.Topics) &&
		slices.EqualFunc(a.Marks, b.Marks, mark.Same) && produce.Same(a.Produce, b.Produce)
}

func head(kind, version int) request.Head {
	return request.Head{Kind: kind, Version: version, Number: 5, Client: of("me")}
}

func topics() []api.Topic { return []api.Topic{{Name: "t", Parts: []int{7}}} }

func aBatch() api.Batch {
	return api.Batch{Leader: -1, Producer: -1, Epoch: -1, Sequence: -1, Records: []api.Record{{Key: none, Value: of("v")}}}
}

// The bytes behind kind and version, and those of topics, and of nobody.
const (
	behind      = "\x00\x00\x00\x05\x00\x02me"
	topicsBytes = "\x00\x00\x00\x01\x00\x01t\x00\x00\x00\x01\x00\x00\x00\x07"
	nobody      = "\xFF\xFF\xFF\xFF\xFF\xFF\xFF\xFF\xFF\xFF"
	writer      = "\x00\x00\x00\x00\x00\x00\x00\x01\x00\x02"
)

// sized is bytes behind how many they are, as four bytes.
func sized(s string) string {
	n := len(s)
	return string([]byte{byte(n >> 24), byte(n >> 16), byte(n >> 8), byte(n)}) + s
}

// row is a frame that may be, and its bytes behind the size.
type row struct {
	f frame.Frame
	s string
}

func rows() []row {
	batches, _ := batch.Encode(aBatch())
	add := txn.Add{ID: "a", Producer: 1, Epoch: 2, Topics: topics()}
	m := mark.Mark{Producer: 1, Epoch: 2, Commit: true, Topics: topics(), Coordinator: 3}
	old := m
	old.Coordinator = 0
	made := func(parts ...produce.Part) produce.Request {
		return produce.Request{ID: none, Acks: 1, Topics: []produce.Topic{{Name: "t", Parts: parts}}}
	}
	produced := "\xFF\xFF\x00\x01\x00\x00\x00\x00\x00\x00\x00\x01\x00\x01t\x00\x00\x00\x01\x00\x00\x00\x06"
	return []row{
		{frame.Frame{Head: head(22, 0), Begin: txn.Begin{ID: none, Timeout: 9, Producer: -1, Epoch: -1}}, "\x00\x16\x00\x00" + behind + "\xFF\xFF\x00\x00\x00\x09"},
		{frame.Frame{Head: head(22, 1), Begin: txn.Begin{ID: none, Timeout: 9, Producer: -1, Epoch: -1}}, "\x00\x16\x00\x01" + behind + "\xFF\xFF\x00\x00\x00\x09" + nobody},
		{frame.Frame{Head: head(22, 1), Begin: txn.Begin{ID: of("a"), Producer: 1, Epoch: 2}}, "\x00\x16\x00\x01" + behind + "\x00\x01a\x00\x00\x00\x00" + writer},
		{frame.Frame{Head: head(24, 0), Add: add}, "\x00\x18\x00\x00" + behind + "\x00\x01a" + writer + topicsBytes},
		{frame.Frame{Head: head(26, 0), End: txn.End{ID: "a", Producer: 1, Epoch: 2, Commit: true}}, "\x00\x1A\x00\x00" + behind + "\x00\x01a" + writer + "\x01"},
		{frame.Frame{Head: head(26, 0), End: txn.End{ID: "a", Producer: 1, Epoch: 2}}, "\x00\x1A\x00\x00" + behind + "\x00\x01a" + writer + "\x00"},
		{frame.Frame{Head: head(27, 0), Marks: []mark.Mark{old}}, "\x00\x1B\x00\x00" + behind + "\x00\x00\x00\x01" + writer + "\x01" + topicsBytes},
		{frame.Frame{Head: head(27, 1), Marks: []mark.Mark{m, old}}, "\x00\x1B\x00\x01" + behind + "\x00\x00\x00\x02" + writer + "\x01" + topicsBytes + "\x00\x00\x00\x03" + writer + "\x01" + topicsBytes + "\x00\x00\x00\x00"},
		{frame.Frame{Head: head(0, 3), Produce: made(produce.Part{Index: 6, Batches: []api.Batch{aBatch()}})}, "\x00\x00\x00\x03" + behind + produced + sized(batches)},
		{frame.Frame{Head: head(0, 4), Produce: made(produce.Part{Index: 6, Batches: []api.Batch{aBatch(), aBatch()}})}, "\x00\x00\x00\x04" + behind + produced + sized(batches+batches)},
	}
}

// P21.1, P21.2
func TestEachKind(t *testing.T) {
	for i, x := range rows() {
		s := sized(x.s)
		if got, e := frame.Encode(x.f); got != s || e != api.OK {
			t.Errorf("Encode of the %dth: %q, %v, not %q", i, got, e, s)
		}
		if f, e := frame.Decode(s); !same(f, x.f) || e != api.OK {
			t.Errorf("Decode of the %dth: %v, %v", i, f, e)
		}
		in := input.New(s + "z")
		if f := frame.Read(in); !same(f, x.f) || in.At() != len(s) || in.Err() != api.OK {
			t.Errorf("Read of the %dth: %v, %v", i, f, in.Err())
		}
		if f, e := frame.Decode(s + "z"); !same(f, frame.Frame{}) || e != api.ErrLong {
			t.Errorf("Decode of the %dth and more: %v, %v", i, f, e)
		}
		if f, e := frame.Decode(sized(x.s + "z")); !same(f, frame.Frame{}) || e != api.ErrLong {
			t.Errorf("Decode of the %dth with more in it: %v, %v", i, f, e)
		}
		for n := range len(s) {
			if f, e := frame.Decode(s[:n]); !same(f, frame.Frame{}) || e != api.ErrShort {
				t.Errorf("Decode of %d bytes of the %dth: %v, %v", n, i, f, e)
			}
		}
		for n := range len(x.s) { // what is behind the frame isn't of it
			in := input.New(sized(x.s[:n]) + x.s[n:])
			if f := frame.Read(in); !same(f, frame.Frame{}) || in.Err() != api.ErrShort {
				t.Errorf("Read of the %dth, of whose size %d is told: %v, %v", i, n, f, in.Err())
			}
		}
	}
}

// P21.1: the document's example
func TestTheExample(t *testing.T) {
	s, e := frame.Encode(frame.Frame{Head: request.Head{Kind: 26, Client: none}, End: txn.End{ID: "a"}})
	if want := "\x00\x00\x00\x18" + "\x00\x1A\x00\x00\x00\x00\x00\x00\xFF\xFF" + "\x00\x01a" + strings.Repeat("\x00", 11); s != want || e != api.OK {
		t.Errorf("%q, %v", s, e)
	}
}

// P21.1
func TestOtherBodiesAreOfNoMatter(t *testing.T) {
	for i, x := range rows() {
		f := x.f
		bad := frame.Frame{
			Begin: txn.Begin{Timeout: -1}, Add: txn.Add{Epoch: -1}, End: txn.End{Epoch: -1},
			Marks: []mark.Mark{{Epoch: -1}}, Produce: produce.Request{Acks: 9},
		}
		bad.Head = f.Head
		switch f.Kind {
		case 0:
			bad.Produce = f.Produce
		case 22:
			bad.Begin = f.Begin
		case 24:
			bad.Add = f.Add
		case 26:
			bad.End = f.End
		case 27:
			bad.Marks = f.Marks
		}
		if s, e := frame.Encode(bad); s != sized(x.s) || e != api.OK {
			t.Errorf("Encode of the %dth, with other bodies: %q, %v", i, s, e)
		}
	}
}

// P21.1
func TestFramesThatMayNotBe(t *testing.T) {
	wrong := api.Blob{Null: true, Data: "x"}
	for i, x := range []struct {
		row int
		do  func(*frame.Frame)
		e   api.Errno
	}{
		{0, func(f *frame.Frame) { f.Kind = 23 }, api.ErrKind},
		{0, func(f *frame.Frame) { f.Kind = 1 << 40 }, api.ErrKind},
		{0, func(f *frame.Frame) { f.Version = 2 }, api.ErrVersion},
		{0, func(f *frame.Frame) { f.Version, f.Begin.Timeout = 2, -1 }, api.ErrVersion},
		{0, func(f *frame.Frame) { f.Number = 1 << 31 }, api.ErrRange},
		{0, func(f *frame.Frame) { f.Client = wrong }, api.ErrLength},
		{0, func(f *frame.Frame) { f.Client, f.Begin.Timeout = wrong, -1 }, api.ErrLength},
		{0, func(f *frame.Frame) { f.Number, f.Begin.ID = 1<<31, wrong }, api.ErrRange},
		{0, func(f *frame.Frame) { f.Begin.ID = wrong }, api.ErrLength},
		{0, func(f *frame.Frame) { f.Begin.Timeout = -1 }, api.ErrRange},
		{0, func(f *frame.Frame) { f.Begin.Producer, f.Begin.Epoch = 1, 2 }, api.ErrRange}, // that is of version 1
		{2, func(f *frame.Frame) { f.Version = 0 }, api.ErrRange},
		{3, func(f *frame.Frame) { f.Add.ID = "" }, api.ErrLength},
		{3, func(f *frame.Frame) { f.Add.Topics = nil }, api.ErrCount},
		{3, func(f *frame.Frame) { f.Version = 1 }, api.ErrVersion},
		{4, func(f *frame.Frame) { f.End.Epoch = -1 }, api.ErrRange},
		{6, func(f *frame.Frame) { f.Marks = nil }, api.ErrCount},
		{6, func(f *frame.Frame) { f.Marks[0].Topics[0].Name = "" }, api.ErrOrder},
		{7, func(f *frame.Frame) { f.Version = 0 }, api.ErrRange}, // no Coordinator is told then
		{8, func(f *frame.Frame) { f.Produce.Topics = nil }, api.ErrCount},
		{8, func(f *frame.Frame) { f.Produce.Topics[0].Parts[0].Batches[0].Txn = true }, api.ErrRange},
		{9, func(f *frame.Frame) { f.Version = 3 }, api.ErrCount},
	} {
		f := rows()[x.row].f
		x.do(&f)
		if s, e := frame.Encode(f); s != "" || e != x.e {
			t.Errorf("Encode of the %dth: %q, %v, not %v", i, s, e, x.e)
		}
	}
}

// P21.2
func TestDecodeOfWrongBytes(t *testing.T) {
	for _, x := range []struct {
		s string
		e api.Errno
	}{
		{"\xFF\xFF\xFF\xFF", api.ErrLength},
		{"\x80\x00\x00\x00" + strings.Repeat("a", 50), api.ErrLength},
		{"\x7F\xFF\xFF\xFF" + strings.Repeat("a", 50), api.ErrShort},
		{"\x00\x00\x00\x00", api.ErrShort},
		{"\x00\x00\x00\x00z", api.ErrShort},
		{sized("\x00\x15\x00\x00" + behind), api.ErrKind},
		{sized("\x00\x15\x00\x00" + behind + "zzz"), api.ErrKind},
		{sized("\x00\x15\x00\x00"+behind) + "zzz", api.ErrKind},
		{sized("\x00\x16\x00\x02" + behind), api.ErrVersion},
		{sized("\x00\x00\x00\x00" + behind), api.ErrVersion},
		{sized("\x00\x16\x00\x00\x00\x00\x00\x05\xFF\xFE"), api.ErrLength},
		{sized("\x00\x16\x00\x00" + behind + "\xFF\xFE\x00\x00\x00\x09"), api.ErrLength},
		{sized("\x00\x16\x00\x00" + behind + "\xFF\xFF\xFF\xFF\xFF\xFF"), api.ErrRange},
		{sized("\x00\x16\x00\x00" + behind + "\xFF\xFF\xFF\xFF\xFF\xFF" + "z"), api.ErrRange},
		{sized("\x00\x16\x00\x00" + behind + "\xFF\xFF\x00\x00\x00\x00" + nobody), api.ErrLong}, // which are of version 1
		{sized("\x00\x18\x00\x00" + behind + "\x00\x01a" + writer + "\x00\x00\x00\x00"), api.ErrCount},
		{sized("\x00\x1A\x00\x00" + behind + "\x00\x01a" + writer + "\x02"), api.ErrRange},
		{sized("\x00\x1B\x00\x00" + behind + "\x00\x00\x00\x00"), api.ErrCount},
		{sized("\x00\x1B\x00\x01" + behind + "\x00\x00\x00\x01" + writer + "\x01" + topicsBytes), api.ErrShort},
		{sized("\x00\x00\x00\x03" + behind + "\xFF\xFF\x00\x01\x00\x00\x00\x00\x00\x00\x00\x00"), api.ErrCount},
	} {
		if f, e := frame.Decode(x.s); !same(f, frame.Frame{}) || e != x.e {
			t.Errorf("Decode of %q: %v, %v, not %v", x.s, f, e, x.e)
		}
	}
}

// P21.1, P21.2: bytes that are changed anywhere are refused, or just those of what is read.
func TestOneSpelling(t *testing.T) {
	for _, x := range rows() {
		s := sized(x.s)
		for i := range len(s) {
			for c := range 256 {
				changed := s[:i] + string([]byte{byte(c)}) + s[i+1:]
				f, e := frame.Decode(changed)
				if back, g := frame.Encode(f); e == api.OK && (back != changed || g != api.OK) {
					t.Errorf("Decode of %q: %v, whose bytes are %q, %v", changed, f, back, g)
				}
			}
		}
	}
}

// P1, P2: once something went wrong, nothing is read; what is handed in isn't changed, what is answered is new memory.
func TestMemory(t *testing.T) {
	for i, x := range rows() {
		in := input.New(sized(x.s))
		in.Fail(api.ErrWord)
		if f := frame.Read(in); !same(f, frame.Frame{}) || in.Err() != api.ErrWord || in.At() != 0 {
			t.Error("a frame was read", i, f, in.Err())
		}
		f := x.f
		frame.Encode(f)
		if !same(f, rows()[i].f) {
			t.Error("a frame was changed", i)
		}
	}
	s := sized(rows()[7].s)
	first, _ := frame.Decode(s)
	first.Marks[0].Topics[0].Parts[0], first.Marks[1].Producer = 77, 77
	if second, _ := frame.Decode(s); !same(second, rows()[7].f) {
		t.Error("two answers share memory")
	}
}
