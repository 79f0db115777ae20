package mark_test

import (
	"math"
	"slices"
	"strings"
	"testing"

	"cursitor/api"
	"cursitor/input"
	"cursitor/mark"
	"cursitor/output"
)

func topics() []api.Topic {
	return []api.Topic{{Name: "t", Parts: []int{0, 2}}, {Name: "tt", Parts: []int{1}}}
}

// some is a Mark that may be in version 1; plain is one that may be in both.
func some() mark.Mark {
	return mark.Mark{Producer: 0x0102030405060708, Epoch: 0x090A, Commit: true, Topics: topics(), Coordinator: 0x0B0C0D0E}
}

func plain() mark.Mark { return mark.Mark{Topics: []api.Topic{{Name: "a", Parts: []int{5}}}} }

const (
	topicsBytes = "\x00\x00\x00\x02" + "\x00\x01t\x00\x00\x00\x02\x00\x00\x00\x00\x00\x00\x00\x02" + "\x00\x02tt\x00\x00\x00\x01\x00\x00\x00\x01"
	someAhead   = "\x01\x02\x03\x04\x05\x06\x07\x08\x09\x0A"
	someBytes   = someAhead + "\x01" + topicsBytes + "\x0B\x0C\x0D\x0E"
	zeros       = "\x00\x00\x00\x00\x00\x00\x00\x00\x00\x00"
	plainTopics = "\x00\x00\x00\x01\x00\x01a\x00\x00\x00\x01\x00\x00\x00\x05"
	plainBytes  = zeros + "\x00" + plainTopics
)

func same(a, b []mark.Mark) bool { return slices.EqualFunc(a, b, mark.Same) }

// P19.1, P19.2
func TestCheckOfMarks(t *testing.T) {
	longest := strings.Repeat("x", 32767)
	for i, x := range []struct {
		do     func(*mark.Mark)
		v0, v1 api.Errno
	}{
		{func(m *mark.Mark) {}, api.ErrRange, api.OK},
		{func(m *mark.Mark) { m.Coordinator = 0 }, api.OK, api.OK},
		{func(m *mark.Mark) { m.Coordinator = 1 }, api.ErrRange, api.OK},
		{func(m *mark.Mark) { m.Coordinator = 1<<31 - 1 }, api.ErrRange, api.OK},
		{func(m *mark.Mark) { m.Coordinator = 1 << 31 }, api.ErrRange, api.ErrRange},
		{func(m *mark.Mark) { m.Coordinator = -1 }, api.ErrRange, api.ErrRange},
		{func(m *mark.Mark) { m.Coordinator = math.MinInt }, api.ErrRange, api.ErrRange},
		{func(m *mark.Mark) { m.Coordinator, m.Commit = 0, false }, api.OK, api.OK},
		{func(m *mark.Mark) { m.Coordinator, m.Producer, m.Epoch = 0, 0, 0 }, api.OK, api.OK},
		{func(m *mark.Mark) { m.Coordinator, m.Producer, m.Epoch = 0, math.MaxInt, 1<<15-1 }, api.OK, api.OK},
		{func(m *mark.Mark) { m.Coordinator, m.Producer = 0, -1 }, api.ErrRange, api.ErrRange},
		{func(m *mark.Mark) { m.Coordinator, m.Producer, m.Epoch = 0, -1, -1 }, api.ErrRange, api.ErrRange},
		{func(m *mark.Mark) { m.Coordinator, m.Epoch = 0, -1 }, api.ErrRange, api.ErrRange},
		{func(m *mark.Mark) { m.Coordinator, m.Epoch = 0, 1<<15 }, api.ErrRange, api.ErrRange},
		{func(m *mark.Mark) { m.Coordinator, m.Topics = 0, nil }, api.ErrCount, api.ErrCount},
		{func(m *mark.Mark) { m.Topics = nil }, api.ErrRange, api.ErrCount},
		{func(m *mark.Mark) { m.Epoch, m.Topics = -1, nil }, api.ErrRange, api.ErrRange},
		{func(m *mark.Mark) { m.Coordinator, m.Topics[0].Name = 0, "" }, api.ErrOrder, api.ErrOrder},
		{func(m *mark.Mark) { m.Coordinator, m.Topics[1].Name = 0, "t" }, api.ErrOrder, api.ErrOrder},
		{func(m *mark.Mark) { m.Coordinator, m.Topics[1].Name = 0, longest }, api.OK, api.OK},
		{func(m *mark.Mark) { m.Coordinator, m.Topics[1].Name = 0, longest+"x" }, api.ErrOrder, api.ErrOrder},
		{func(m *mark.Mark) { m.Coordinator, m.Topics[1].Parts = 0, nil }, api.ErrOrder, api.ErrOrder},
		{func(m *mark.Mark) { m.Coordinator, m.Topics[0].Parts = 0, []int{2, 2} }, api.ErrOrder, api.ErrOrder},
		{func(m *mark.Mark) { m.Coordinator, m.Topics[0].Parts = 0, []int{-1} }, api.ErrOrder, api.ErrOrder},
	} {
		m := some()
		x.do(&m)
		for version, want := range []api.Errno{x.v0, x.v1} {
			if e := m.Check(version); e != want {
				t.Errorf("Check(%d) of the %dth: %v, not %v", version, i, e, want)
			}
			for _, l := range [][]mark.Mark{{m}, {plain(), m, plain()}} {
				if e := mark.Check(l, version); e != want {
					t.Errorf("Check(%d) of a request of the %dth: %v, not %v", version, i, e, want)
				}
				var out output.Output
				mark.Write(&out, l, version)
				s, e := out.Text()
				if e != want {
					t.Errorf("Write(%d) of the %dth: %v, not %v", version, i, e, want)
				}
				in := input.New(s)
				if back := mark.Read(in, version); want == api.OK && (!same(back, l) || in.Close() != api.OK) {
					t.Errorf("the %dth in version %d, and back: %.80v, %v", i, version, back, in.Err())
				}
			}
		}
	}
}

// P19.1
func TestCheckOfRequests(t *testing.T) {
	ranged, counted := plain(), plain()
	ranged.Epoch, counted.Topics = -1, nil
	for i, x := range []struct {
		l []mark.Mark
		e api.Errno
	}{
		{nil, api.ErrCount},
		{[]mark.Mark{}, api.ErrCount},
		{[]mark.Mark{plain()}, api.OK},
		{[]mark.Mark{plain(), plain()}, api.OK}, // they needn't rise
		{[]mark.Mark{ranged, counted}, api.ErrRange},
		{[]mark.Mark{plain(), counted, ranged}, api.ErrCount},
	} {
		for version := range 2 {
			if e := mark.Check(x.l, version); e != x.e {
				t.Errorf("Check(%d) of the %dth: %v, not %v", version, i, e, x.e)
			}
			var out output.Output
			mark.Write(&out, x.l, version)
			if out.Err() != x.e {
				t.Errorf("Write(%d) of the %dth: %v, not %v", version, i, out.Err(), x.e)
			}
		}
	}
}

// P19.2, P19.3
func TestBytes(t *testing.T) {
	for i, x := range []struct {
		l       []mark.Mark
		version int
		s       string
	}{
		{[]mark.Mark{plain()}, 0, "\x00\x00\x00\x01" + plainBytes},
		{[]mark.Mark{plain()}, 1, "\x00\x00\x00\x01" + plainBytes + "\x00\x00\x00\x00"},
		{[]mark.Mark{some()}, 1, "\x00\x00\x00\x01" + someBytes},
		{[]mark.Mark{some(), plain(), some()}, 1, "\x00\x00\x00\x03" + someBytes + plainBytes + "\x00\x00\x00\x00" + someBytes},
		{[]mark.Mark{plain(), plain()}, 0, "\x00\x00\x00\x02" + plainBytes + plainBytes},
	} {
		var out output.Output
		out.Byte('<')
		mark.Write(&out, x.l, x.version)
		if s, e := out.Text(); s != "<"+x.s || e != api.OK {
			t.Errorf("Write of the %dth: %q, %v", i, s, e)
		}
		for _, more := range []string{"", "z"} {
			in := input.New(x.s + more)
			if l := mark.Read(in, x.version); !same(l, x.l) || in.At() != len(x.s) || in.Err() != api.OK {
				t.Errorf("Read of the %dth: %v, %v", i, l, in.Err())
			}
		}
		for n := range len(x.s) {
			in := input.New(x.s[:n])
			if l := mark.Read(in, x.version); len(l) != 0 || in.Err() != api.ErrShort {
				t.Errorf("Read of %d bytes of the %dth: %v, %v", n, i, l, in.Err())
			}
		}
	}
}

// P19.3
func TestReadOfWrongBytes(t *testing.T) {
	one := "\x00\x00\x00\x01"
	for _, x := range []struct {
		s       string
		version int
		e       api.Errno
	}{
		{"\x00\x00\x00\x00", 0, api.ErrCount},
		{"\x00\x00\x00\x00z", 1, api.ErrCount},
		{"\xFF\xFF\xFF\xFF" + plainBytes, 0, api.ErrLength},
		{"\x80\x00\x00\x00", 0, api.ErrLength},
		{one + someAhead + "\x02" + "\x00\x00\x00", 0, api.ErrShort}, // fewer than 15 bytes a Mark, whatever they are
		{one + someAhead + "\x02" + "\x00\x00\x00\x00", 0, api.ErrRange},
		{"\x00\x00\x00\x02" + someAhead + "\x02" + "\x00\x00\x00\x00" + someAhead + "\x02" + "\x00\x00\x00", 0, api.ErrShort},
		{"\x7F\xFF\xFF\xFF" + plainBytes, 0, api.ErrShort},
		{one + zeros + "\x02" + plainTopics, 0, api.ErrRange}, // of Commit
		{one + zeros + "\xFF" + plainTopics, 0, api.ErrRange},
		{one + zeros + "\x02" + "\xFF\xFF\xFF\xFF", 0, api.ErrRange},
		{one + zeros + "\x01" + "\xFF\xFF\xFF\xFF", 0, api.ErrLength},
		{one + zeros + "\x01" + "\x00\x00\x00\x01\xFF\xFF\x00\x00\x00\x00", 0, api.ErrLength},
		{one + zeros + "\x01" + "\x00\x00\x00\x09", 0, api.ErrShort},
		{one + zeros + "\x01" + "\x00\x00\x00\x00", 0, api.ErrCount},
		{one + zeros + "\x01" + "\x00\x00\x00\x01\x00\x01a\x00\x00\x00\x00", 0, api.ErrOrder},
		{one + zeros + "\x01" + "\x00\x00\x00\x01\x00\x01a\x00\x00\x00\x01\xFF\xFF\xFF\xFF", 0, api.ErrOrder},
		{one + zeros + "\x01" + plainTopics, 1, api.ErrShort},
		{one + zeros + "\x01" + plainTopics + "\xFF\xFF\xFF\xFF", 1, api.ErrRange}, // of Coordinator
		{one + "\xFF" + zeros[1:] + "\x00" + plainTopics, 0, api.ErrRange},
		{one + zeros[:8] + "\xFF\xFF" + "\x00" + plainTopics, 0, api.ErrRange},
		{one + zeros[:8] + "\xFF\xFF" + "\x00" + "\x00\x00\x00\x00", 0, api.ErrRange},
		{"\x00\x00\x00\x02" + zeros + "\x01" + "\x00\x00\x00\x00" + zeros + "\x05" + plainTopics, 0, api.ErrRange}, // field by field, ahead of Check
		{"\x00\x00\x00\x02" + plainBytes + zeros + "\x01" + "\x00\x00\x00\x00", 0, api.ErrCount},
		{"\x00\x00\x00\x02" + plainBytes + plainBytes[:14], 0, api.ErrShort},
	} {
		in := input.New(x.s)
		if l := mark.Read(in, x.version); len(l) != 0 || in.Err() != x.e {
			t.Errorf("Read(%d) of %q: %v, %v, not %v", x.version, x.s, l, in.Err(), x.e)
		}
	}
}

// P19.1
func TestSame(t *testing.T) {
	if !mark.Same(some(), some()) || !mark.Same(mark.Mark{}, mark.Mark{Topics: []api.Topic{}}) {
		t.Error("the same ones aren't")
	}
	for i, do := range []func(*mark.Mark){
		func(m *mark.Mark) { m.Producer++ },
		func(m *mark.Mark) { m.Epoch++ },
		func(m *mark.Mark) { m.Commit = false },
		func(m *mark.Mark) { m.Coordinator++ },
		func(m *mark.Mark) { m.Topics = nil },
		func(m *mark.Mark) { m.Topics = m.Topics[:1] },
		func(m *mark.Mark) { m.Topics[1].Name = "u" },
		func(m *mark.Mark) { m.Topics[0].Parts[1] = 3 },
	} {
		m := some()
		do(&m)
		if mark.Same(m, some()) || mark.Same(some(), m) || !mark.Same(m, m) {
			t.Error("others are the same", i)
		}
	}
}

// P1, P2: other versions end, too; once something went wrong, nothing is read or written; what is handed in isn't changed, what is answered is new memory.
func TestMemory(t *testing.T) {
	for _, version := range []int{math.MinInt, -1, 2, math.MaxInt} {
		var out output.Output
		some().Check(version)
		mark.Check([]mark.Mark{some()}, version)
		mark.Write(&out, []mark.Mark{some()}, version)
		mark.Read(input.New("\x00\x00\x00\x01"+someBytes), version)
	}
	s := "\x00\x00\x00\x01" + someBytes
	in := input.New(s)
	in.Fail(api.ErrSum)
	if l := mark.Read(in, 1); len(l) != 0 || in.Err() != api.ErrSum || in.At() != 0 {
		t.Error("Marks were read", l, in.Err())
	}
	var out output.Output
	out.Fail(api.ErrSum)
	l := append(make([]mark.Mark, 0, 3), some())
	mark.Write(&out, l, 1)
	mark.Write(&out, nil, 1)
	if out.Len() != 0 || out.Err() != api.ErrSum {
		t.Error("Marks were written", out.Err())
	}
	out = output.Output{}
	mark.Write(&out, l, 1)
	if !mark.Same(l[0], some()) || !mark.Same(l[:2][1], mark.Mark{}) {
		t.Error("Marks were changed")
	}
	first := mark.Read(input.New(s), 1)
	first[0].Topics[0].Parts[0], first[0].Producer = 77, 77
	if second := mark.Read(input.New(s), 1); !mark.Same(second[0], some()) {
		t.Error("two answers share memory")
	}
}
