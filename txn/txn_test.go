package txn_test

import (
	"math"
	"strings"
	"testing"

	"cursitor/api"
	"cursitor/input"
	"cursitor/output"
	"cursitor/txn"
	"cursitor/value"
)

var (
	none    = api.Blob{Null: true}
	wrong   = api.Blob{Null: true, Data: "a"}
	longest = strings.Repeat("x", 32767)
)

func of(s string) api.Blob { return api.Blob{Data: s} }

func topics() []api.Topic {
	return []api.Topic{{Name: "t", Parts: []int{0, 2}}, {Name: "tt", Parts: []int{1}}}
}

const (
	writerBytes = "\x01\x02\x03\x04\x05\x06\x07\x08\x09\x0A"
	topicsBytes = "\x00\x00\x00\x02" + "\x00\x01t\x00\x00\x00\x02\x00\x00\x00\x00\x00\x00\x00\x02" + "\x00\x02tt\x00\x00\x00\x01\x00\x00\x00\x01"
)

func begin() txn.Begin {
	return txn.Begin{ID: of("ab"), Timeout: 0x01020304, Producer: 0x0102030405060708, Epoch: 0x090A}
}

func add() txn.Add {
	return txn.Add{ID: "ab", Producer: 0x0102030405060708, Epoch: 0x090A, Topics: topics()}
}

func end() txn.End {
	return txn.End{ID: "ab", Producer: 0x0102030405060708, Epoch: 0x090A, Commit: true}
}

func sameAdd(a, b txn.Add) bool {
	return a.ID == b.ID && a.Producer == b.Producer && a.Epoch == b.Epoch && value.SameTopics(a.Topics, b.Topics)
}

// P18.1
func TestWho(t *testing.T) {
	for _, x := range []struct {
		producer, epoch int
		want            bool
	}{
		{0, 0, true}, {math.MaxInt, 1<<15 - 1, true}, {5, 7, true},
		{-1, 0, false}, {0, -1, false}, {-1, -1, false}, {0, 1 << 15, false}, {math.MinInt, 0, false}, {0, math.MinInt, false}, {0, math.MaxInt, false},
	} {
		if txn.Who(x.producer, x.epoch) != x.want {
			t.Errorf("Who(%d, %d) isn't %v", x.producer, x.epoch, x.want)
		}
	}
}

// riseRows are topics, and what Rise says of them.
func riseRows() []struct {
	l []api.Topic
	e api.Errno
} {
	one := func(name string, parts ...int) []api.Topic { return []api.Topic{{Name: name, Parts: parts}} }
	return []struct {
		l []api.Topic
		e api.Errno
	}{
		{topics(), api.OK},
		{one("a", 0), api.OK},
		{one(longest, 1<<31-1), api.OK},
		{nil, api.ErrCount},
		{[]api.Topic{}, api.ErrCount},
		{one("a"), api.ErrOrder},
		{one("", 0), api.ErrOrder},
		{one(longest+"x", 0), api.ErrOrder},
		{one("a", -1), api.ErrOrder},
		{one("a", 1<<31), api.ErrOrder},
		{one("a", 1, 1), api.ErrOrder},
		{one("a", 2, 1), api.ErrOrder},
		{append(one("a", 1), one("a", 2)...), api.ErrOrder},
		{append(one("b", 1), one("a", 2)...), api.ErrOrder},
		{append(topics(), one("u")...), api.ErrOrder},
	}
}

// P18.1
func TestRise(t *testing.T) {
	for i, x := range riseRows() {
		if e := txn.Rise(x.l); e != x.e {
			t.Errorf("Rise of the %dth: %v, not %v", i, e, x.e)
		}
		a := add()
		a.Topics = x.l
		if e := a.Check(); e != x.e {
			t.Errorf("Check of an Add of the %dth: %v, not %v", i, e, x.e)
		}
		var out output.Output
		a.Write(&out)
		if out.Err() != x.e {
			t.Errorf("Write of an Add of the %dth: %v, not %v", i, out.Err(), x.e)
		}
	}
}

// P18.1, P18.2
func TestCheckOfBegin(t *testing.T) {
	for i, x := range []struct {
		do     func(*txn.Begin)
		v0, v1 api.Errno
	}{
		{func(b *txn.Begin) {}, api.ErrRange, api.OK},
		{func(b *txn.Begin) { b.Producer, b.Epoch = -1, -1 }, api.OK, api.OK},
		{func(b *txn.Begin) { b.Producer, b.Epoch, b.ID = -1, -1, none }, api.OK, api.OK},
		{func(b *txn.Begin) { b.Producer, b.Epoch, b.ID = -1, -1, of(longest) }, api.OK, api.OK},
		{func(b *txn.Begin) { b.Producer, b.Epoch, b.Timeout = -1, -1, 0 }, api.OK, api.OK},
		{func(b *txn.Begin) { b.Producer, b.Epoch, b.Timeout = -1, -1, 1<<31-1 }, api.OK, api.OK},
		{func(b *txn.Begin) { b.Producer, b.Epoch = 0, 0 }, api.ErrRange, api.OK},
		{func(b *txn.Begin) { b.Producer, b.Epoch = math.MaxInt, 1<<15-1 }, api.ErrRange, api.OK},
		{func(b *txn.Begin) { b.Producer = -1 }, api.ErrRange, api.ErrRange},
		{func(b *txn.Begin) { b.Epoch = -1 }, api.ErrRange, api.ErrRange},
		{func(b *txn.Begin) { b.Epoch = 1 << 15 }, api.ErrRange, api.ErrRange},
		{func(b *txn.Begin) { b.Producer, b.Epoch = -2, -2 }, api.ErrRange, api.ErrRange},
		{func(b *txn.Begin) { b.Timeout = -1 }, api.ErrRange, api.ErrRange},
		{func(b *txn.Begin) { b.Timeout = 1 << 31 }, api.ErrRange, api.ErrRange},
		{func(b *txn.Begin) { b.Producer, b.Epoch, b.Timeout = -1, -1, -1 }, api.ErrRange, api.ErrRange},
		{func(b *txn.Begin) { b.Producer, b.Epoch, b.Timeout = -1, -1, 1<<31 }, api.ErrRange, api.ErrRange},
		{func(b *txn.Begin) { b.ID = of("") }, api.ErrLength, api.ErrLength},
		{func(b *txn.Begin) { b.ID = of(longest + "x") }, api.ErrLength, api.ErrLength},
		{func(b *txn.Begin) { b.ID = wrong }, api.ErrLength, api.ErrLength},
		{func(b *txn.Begin) { b.ID, b.Timeout, b.Producer = wrong, -1, -5 }, api.ErrLength, api.ErrLength},
	} {
		b := begin()
		x.do(&b)
		for version, want := range []api.Errno{x.v0, x.v1} {
			if e := b.Check(version); e != want {
				t.Errorf("Check(%d) of the %dth: %v, not %v", version, i, e, want)
			}
			var out output.Output
			b.Write(&out, version)
			s, e := out.Text()
			if e != want {
				t.Errorf("Write(%d) of the %dth: %v, not %v", version, i, e, want)
			}
			in := input.New(s)
			if back := txn.ReadBegin(in, version); want == api.OK && (back != b || in.Close() != api.OK) {
				t.Errorf("the %dth in version %d, and back: %v, %v", i, version, back, in.Err())
			}
		}
	}
}

// P18.1, P18.2
func TestCheckOfAddAndEnd(t *testing.T) {
	for i, x := range []struct {
		id              string
		producer, epoch int
		e               api.Errno
	}{
		{"a", 0, 0, api.OK},
		{longest, math.MaxInt, 1<<15 - 1, api.OK},
		{"", 0, 0, api.ErrLength},
		{longest + "x", 0, 0, api.ErrLength},
		{"", -1, 0, api.ErrLength},
		{"a", -1, 0, api.ErrRange},
		{"a", 0, -1, api.ErrRange},
		{"a", -1, -1, api.ErrRange},
		{"a", 0, 1 << 15, api.ErrRange},
		{"a", math.MinInt, math.MaxInt, api.ErrRange},
	} {
		for _, yes := range []bool{false, true} {
			z := txn.End{ID: x.id, Producer: x.producer, Epoch: x.epoch, Commit: yes}
			var out output.Output
			z.Write(&out)
			s, e := out.Text()
			if z.Check() != x.e || e != x.e {
				t.Errorf("the %dth End: %v, %v, not %v", i, z.Check(), e, x.e)
			}
			in := input.New(s)
			if back := txn.ReadEnd(in); x.e == api.OK && (back != z || in.Close() != api.OK) {
				t.Errorf("the %dth End, and back: %.60v, %v", i, back, in.Err())
			}
		}
		a := txn.Add{ID: x.id, Producer: x.producer, Epoch: x.epoch, Topics: topics()}
		var out output.Output
		a.Write(&out)
		s, e := out.Text()
		if a.Check() != x.e || e != x.e {
			t.Errorf("the %dth Add: %v, %v, not %v", i, a.Check(), e, x.e)
		}
		in := input.New(s)
		if back := txn.ReadAdd(in); x.e == api.OK && (!sameAdd(back, a) || in.Close() != api.OK) {
			t.Errorf("the %dth Add, and back: %.60v, %v", i, back, in.Err())
		}
		a.Topics = nil // whose error is behind the others
		want := x.e
		if want == api.OK {
			want = api.ErrCount
		}
		if e := a.Check(); e != want {
			t.Errorf("the %dth Add without topics: %v, not %v", i, e, want)
		}
	}
}

// P18.2, P18.3
func TestBytes(t *testing.T) {
	nobody := begin()
	nobody.Producer, nobody.Epoch, nobody.ID = -1, -1, none
	aborted := end()
	aborted.Commit = false
	for i, x := range []struct {
		write func(*output.Output)
		read  func(*input.Input) bool // and is it what was written?
		zero  func(*input.Input) bool // is the zero one read?
		want  string
	}{
		{
			func(out *output.Output) { nobody.Write(out, 0) },
			func(in *input.Input) bool { return txn.ReadBegin(in, 0) == nobody },
			func(in *input.Input) bool { return txn.ReadBegin(in, 0) == txn.Begin{} },
			"\xFF\xFF\x01\x02\x03\x04",
		},
		{
			func(out *output.Output) { nobody.Write(out, 1) },
			func(in *input.Input) bool { return txn.ReadBegin(in, 1) == nobody },
			func(in *input.Input) bool { return txn.ReadBegin(in, 1) == txn.Begin{} },
			"\xFF\xFF\x01\x02\x03\x04" + strings.Repeat("\xFF", 10),
		},
		{
			func(out *output.Output) { begin().Write(out, 1) },
			func(in *input.Input) bool { return txn.ReadBegin(in, 1) == begin() },
			func(in *input.Input) bool { return txn.ReadBegin(in, 1) == txn.Begin{} },
			"\x00\x02ab\x01\x02\x03\x04" + writerBytes,
		},
		{
			func(out *output.Output) { add().Write(out) },
			func(in *input.Input) bool { return sameAdd(txn.ReadAdd(in), add()) },
			func(in *input.Input) bool { return sameAdd(txn.ReadAdd(in), txn.Add{}) },
			"\x00\x02ab" + writerBytes + topicsBytes,
		},
		{
			func(out *output.Output) { end().Write(out) },
			func(in *input.Input) bool { return txn.ReadEnd(in) == end() },
			func(in *input.Input) bool { return txn.ReadEnd(in) == txn.End{} },
			"\x00\x02ab" + writerBytes + "\x01",
		},
		{
			func(out *output.Output) { aborted.Write(out) },
			func(in *input.Input) bool { return txn.ReadEnd(in) == aborted },
			func(in *input.Input) bool { return txn.ReadEnd(in) == txn.End{} },
			"\x00\x02ab" + writerBytes + "\x00",
		},
		{
			func(out *output.Output) { txn.End{ID: "a", Commit: true}.Write(out) },
			func(in *input.Input) bool { return txn.ReadEnd(in) == txn.End{ID: "a", Commit: true} },
			func(in *input.Input) bool { return txn.ReadEnd(in) == txn.End{} },
			"\x00\x01a" + strings.Repeat("\x00", 10) + "\x01",
		},
	} {
		var out output.Output
		out.Byte('<')
		x.write(&out)
		if s, e := out.Text(); s != "<"+x.want || e != api.OK {
			t.Errorf("Write of the %dth: %q, %v", i, s, e)
		}
		in := input.New(x.want + "z")
		if !x.read(in) || in.At() != len(x.want) || in.Err() != api.OK {
			t.Errorf("Read of the %dth: %v, %d", i, in.Err(), in.At())
		}
		for n := range len(x.want) {
			in := input.New(x.want[:n])
			if !x.zero(in) || in.Err() != api.ErrShort {
				t.Errorf("Read of %d bytes of the %dth: %v", n, i, in.Err())
			}
		}
		in = input.New(x.want)
		in.Fail(api.ErrSum)
		if !x.zero(in) || in.Err() != api.ErrSum || in.At() != 0 {
			t.Errorf("the %dth was read once something went wrong", i)
		}
		out = output.Output{}
		out.Fail(api.ErrSum)
		x.write(&out)
		if out.Len() != 0 || out.Err() != api.ErrSum {
			t.Errorf("the %dth was written once something went wrong", i)
		}
	}
}

// P18.3
func TestReadOfWrongBytes(t *testing.T) {
	below := strings.Repeat("\xFF", 8)
	for _, x := range []struct {
		s              string
		v0, v1         api.Errno // of a Begin of both versions
		added, endings api.Errno // of an Add, and of an End
	}{
		// An ID of none, and of less; no name, and one that is none.
		{"\xFF\xFE" + writerBytes + topicsBytes, api.ErrLength, api.ErrLength, api.ErrLength, api.ErrLength},
		{"\xFF\xFF" + writerBytes + topicsBytes, api.OK, api.OK, api.ErrLength, api.ErrLength},
		{"\x00\x00" + writerBytes + topicsBytes, api.ErrLength, api.ErrLength, api.ErrLength, api.ErrLength},
		// A Timeout below 0, and somebody who is half nobody.
		{"\xFF\xFF" + "\x80\x00\x00\x00" + writerBytes, api.ErrRange, api.ErrRange, api.ErrLength, api.ErrLength},
		{"\xFF\xFF" + "\x00\x00\x00\x00" + below + "\x00\x00", api.OK, api.ErrRange, api.ErrLength, api.ErrLength},
		{"\xFF\xFF" + "\x00\x00\x00\x00" + "\x00" + below[1:] + "\xFF\xFF", api.OK, api.ErrRange, api.ErrLength, api.ErrLength},
		{"\xFF\xFF" + "\x00\x00\x00\x00" + below[:7] + "\xFE" + "\xFF\xFE", api.OK, api.ErrRange, api.ErrLength, api.ErrLength},
		// The first thing that goes wrong field by field is ahead of Check.
		{"\x00\x00" + "\x80\x00\x00", api.ErrShort, api.ErrShort, api.ErrShort, api.ErrShort},
	} {
		for version, want := range []api.Errno{x.v0, x.v1} {
			in := input.New(x.s)
			if b := txn.ReadBegin(in, version); in.Err() != want || want != api.OK && b != (txn.Begin{}) {
				t.Errorf("ReadBegin(%d) of %q: %v, %v, not %v", version, x.s, b, in.Err(), want)
			}
		}
		in := input.New(x.s)
		if a := txn.ReadAdd(in); in.Err() != x.added || !sameAdd(a, txn.Add{}) {
			t.Errorf("ReadAdd of %q: %v, %v, not %v", x.s, a, in.Err(), x.added)
		}
		in = input.New(x.s)
		if z := txn.ReadEnd(in); in.Err() != x.endings || z != (txn.End{}) {
			t.Errorf("ReadEnd of %q: %v, %v, not %v", x.s, z, in.Err(), x.endings)
		}
	}
}

// P18.3
func TestReadAddAndEndOfWrongBytes(t *testing.T) {
	below := strings.Repeat("\xFF", 8)
	writers := []struct {
		s string
		e api.Errno
	}{
		{writerBytes, api.OK},
		{below + "\x00\x00", api.ErrRange},
		{below + "\xFF\xFF", api.ErrRange},
		{writerBytes[:8] + "\xFF\xFF", api.ErrRange},
	}
	for _, w := range writers {
		for _, x := range []struct {
			s string
			e api.Errno // ahead of that of who writes, unless it is OK
			c api.Errno // behind it
		}{
			{topicsBytes, api.OK, api.OK},
			{"\x00\x00\x00\x00", api.OK, api.ErrCount},
			{"\x00\x00\x00\x01\x00\x01a\x00\x00\x00\x00", api.OK, api.ErrOrder},
			{"\x00\x00\x00\x01\x00\x01a\x00\x00\x00\x01\xFF\xFF\xFF\xFF", api.OK, api.ErrOrder},
			{"\x00\x00\x00\x01\xFF\xFF\x00\x00\x00\x00", api.ErrLength, api.OK},
			{"\xFF\xFF\xFF\xFF", api.ErrLength, api.OK},
			{"\x00\x00\x00\x09", api.ErrShort, api.OK},
		} {
			want := x.e
			if want == api.OK {
				want = w.e
			}
			if want == api.OK {
				want = x.c
			}
			in := input.New("\x00\x01a" + w.s + x.s)
			if a := txn.ReadAdd(in); in.Err() != want || want != api.OK && !sameAdd(a, txn.Add{}) {
				t.Errorf("ReadAdd of %q%q: %v, %v, not %v", w.s, x.s, a, in.Err(), want)
			}
		}
		for c := range 256 {
			want := w.e
			if c > 1 {
				want = api.ErrRange
			}
			in := input.New("\x00\x01a" + w.s + string([]byte{byte(c)}))
			if z := txn.ReadEnd(in); in.Err() != want || want != api.OK && z != (txn.End{}) || want == api.OK && z.Commit != (c == 1) {
				t.Errorf("ReadEnd of %q, %d: %v, %v, not %v", w.s, c, z, in.Err(), want)
			}
			in = input.New("\x00\x00" + w.s + string([]byte{byte(c)}))
			want = api.ErrLength
			if c > 1 {
				want = api.ErrRange
			}
			if z := txn.ReadEnd(in); in.Err() != want || z != (txn.End{}) {
				t.Errorf("ReadEnd of no name, %q, %d: %v, %v, not %v", w.s, c, z, in.Err(), want)
			}
		}
	}
}

// P18.2, P18.3
func TestBool(t *testing.T) {
	var out output.Output
	txn.PutBool(&out, true)
	txn.PutBool(&out, false)
	if s, e := out.Text(); s != "\x01\x00" || e != api.OK {
		t.Errorf("PutBool: %q, %v", s, e)
	}
	for c := range 256 {
		in := input.New(string([]byte{byte(c), 'z'}))
		want := api.OK
		if c > 1 {
			want = api.ErrRange
		}
		if yes := txn.Bool(in); yes != (c == 1) || in.Err() != want || want == api.OK && in.At() != 1 {
			t.Errorf("Bool of %d: %v, %v", c, yes, in.Err())
		}
	}
	in := input.New("")
	if txn.Bool(in) || in.Err() != api.ErrShort {
		t.Error("Bool of nothing", in.Err())
	}
	in = input.New("\x01")
	in.Fail(api.ErrSum)
	if txn.Bool(in) || in.Err() != api.ErrSum {
		t.Error("Bool, once something went wrong", in.Err())
	}
}

// P1, P2: other versions end, too; what is handed in isn't changed, what is answered is new memory.
func TestMemory(t *testing.T) {
	for _, version := range []int{math.MinInt, -1, 2, 3, math.MaxInt} {
		var out output.Output
		begin().Check(version)
		begin().Write(&out, version)
		txn.ReadBegin(input.New("\x00\x02ab\x01\x02\x03\x04"+writerBytes), version)
	}
	a := add()
	var out output.Output
	a.Check()
	a.Write(&out)
	if !sameAdd(a, add()) {
		t.Error("an Add was changed")
	}
	s, _ := out.Text()
	first := txn.ReadAdd(input.New(s))
	first.Topics[0].Parts[0] = 77
	if second := txn.ReadAdd(input.New(s)); !sameAdd(second, add()) {
		t.Error("two answers share memory")
	}
}
