package produce_test

import (
	"math"
	"slices"
	"strings"
	"testing"

	"cursitor/api"
	"cursitor/batch"
	"cursitor/input"
	"cursitor/marker"
	"cursitor/output"
	"cursitor/produce"
)

var (
	none    = api.Blob{Null: true}
	longest = strings.Repeat("x", 32767)
)

func of(s string) api.Blob { return api.Blob{Data: s} }

// plain is a batch of no transaction, of a base; ofTxn is one of a transaction; ending ends one.
func plain(base int) api.Batch {
	return api.Batch{Base: base, Leader: -1, Producer: -1, Epoch: -1, Sequence: -1, Records: []api.Record{{Key: none, Value: of("v")}}}
}

func ofTxn(base int) api.Batch {
	b := plain(base)
	b.Txn, b.Producer, b.Epoch, b.Sequence = true, 1, 2, 3
	return b
}

func ending() api.Batch {
	b, _ := marker.Batch(0, 0, marker.End{Producer: 1})
	return b
}

func wrong() api.Batch { return api.Batch{Base: -1} }

func parts(l ...produce.Part) []produce.Part { return l }

func part(index int, l ...api.Batch) produce.Part { return produce.Part{Index: index, Batches: l} }

// request is one of no transaction that may be in both versions.
func request() produce.Request {
	return produce.Request{ID: none, Acks: -1, Timeout: 0x01020304, Topics: []produce.Topic{
		{Name: "a", Parts: parts(part(0, plain(5)), part(7, plain(6)))},
		{Name: "ab", Parts: parts(part(1<<31-1, plain(7)))},
	}}
}

// many is one of a transaction that may be in version 4.
func many() produce.Request {
	return produce.Request{ID: of("id"), Acks: 1, Topics: []produce.Topic{{Name: "t", Parts: parts(part(3, ofTxn(5), ofTxn(6), ofTxn(7)))}}}
}

func bytesOf(l ...api.Batch) string {
	s, e := batch.All(l...)
	if e != api.OK {
		panic(e)
	}
	return s
}

// sized is bytes behind how many they are, as four bytes.
func sized(s string) string {
	n := len(s)
	return string([]byte{byte(n >> 24), byte(n >> 16), byte(n >> 8), byte(n)}) + s
}

func requestBytes() string {
	return "\xFF\xFF" + "\xFF\xFF" + "\x01\x02\x03\x04" + "\x00\x00\x00\x02" +
		"\x00\x01a" + "\x00\x00\x00\x02" + "\x00\x00\x00\x00" + sized(bytesOf(plain(5))) + "\x00\x00\x00\x07" + sized(bytesOf(plain(6))) +
		"\x00\x02ab" + "\x00\x00\x00\x01" + "\x7F\xFF\xFF\xFF" + sized(bytesOf(plain(7)))
}

// manyAhead is what stands ahead of the batches.
const manyAhead = "\x00\x02id" + "\x00\x01" + "\x00\x00\x00\x00" + "\x00\x00\x00\x01" + "\x00\x01t" + "\x00\x00\x00\x01" + "\x00\x00\x00\x03"

func manyBytes() string { return manyAhead + sized(bytesOf(ofTxn(5), ofTxn(6), ofTxn(7))) }

// P20.2, P20.3
func TestBytes(t *testing.T) {
	for i, x := range []struct {
		r       produce.Request
		version int
		s       string
	}{
		{request(), 3, requestBytes()},
		{request(), 4, requestBytes()},
		{many(), 4, manyBytes()},
	} {
		var out output.Output
		out.Byte('<')
		x.r.Write(&out, x.version)
		if s, e := out.Text(); s != "<"+x.s || e != api.OK {
			t.Errorf("Write of the %dth: %q, %v", i, s, e)
		}
		in := input.New(x.s + "z")
		if r := produce.Read(in, x.version); !produce.Same(r, x.r) || in.At() != len(x.s) || in.Err() != api.OK {
			t.Errorf("Read of the %dth: %v, %v", i, r, in.Err())
		}
		for n := range len(x.s) {
			in := input.New(x.s[:n])
			if r := produce.Read(in, x.version); !produce.Same(r, produce.Request{}) || in.Err() != api.ErrShort {
				t.Errorf("Read of %d bytes of the %dth: %v, %v", n, i, r, in.Err())
			}
		}
	}
}

// change is a way to make another request of one, and what Check says of it then.
type change struct {
	do     func(*produce.Request)
	v3, v4 api.Errno
}

// check holds Check, Write and Read of changed requests against what is said of them.
func check(t *testing.T, from func() produce.Request, l []change) {
	t.Helper()
	for i, x := range l {
		r := from()
		x.do(&r)
		for version, want := range map[int]api.Errno{3: x.v3, 4: x.v4} {
			if e := r.Check(version); e != want {
				t.Errorf("Check(%d) of the %dth: %v, not %v", version, i, e, want)
			}
			var out output.Output
			r.Write(&out, version)
			s, e := out.Text()
			if e != want {
				t.Errorf("Write(%d) of the %dth: %v, not %v", version, i, e, want)
			}
			in := input.New(s)
			if back := produce.Read(in, version); want == api.OK && (!produce.Same(back, r) || in.Close() != api.OK) {
				t.Errorf("the %dth in version %d, and back: %.80v, %v", i, version, back, in.Err())
			}
		}
	}
}

// P20.1, 1 and 2
func TestCheckOfNumbers(t *testing.T) {
	check(t, request, []change{
		{func(r *produce.Request) {}, api.OK, api.OK},
		{func(r *produce.Request) { r.ID = api.Blob{Null: true, Data: "x"} }, api.ErrLength, api.ErrLength},
		{func(r *produce.Request) { r.ID = of("") }, api.ErrLength, api.ErrLength},
		{func(r *produce.Request) { r.ID = of(longest + "x") }, api.ErrLength, api.ErrLength},
		{func(r *produce.Request) { r.ID, r.Acks = of(""), 2 }, api.ErrLength, api.ErrLength},
		{func(r *produce.Request) { r.Acks = 0 }, api.OK, api.OK},
		{func(r *produce.Request) { r.Acks = 1 }, api.OK, api.OK},
		{func(r *produce.Request) { r.Acks = -2 }, api.ErrRange, api.ErrRange},
		{func(r *produce.Request) { r.Acks = 2 }, api.ErrRange, api.ErrRange},
		{func(r *produce.Request) { r.Acks = math.MinInt }, api.ErrRange, api.ErrRange},
		{func(r *produce.Request) { r.Acks = math.MaxInt }, api.ErrRange, api.ErrRange},
		{func(r *produce.Request) { r.Timeout = 0 }, api.OK, api.OK},
		{func(r *produce.Request) { r.Timeout = 1<<31 - 1 }, api.OK, api.OK},
		{func(r *produce.Request) { r.Timeout = -1 }, api.ErrRange, api.ErrRange},
		{func(r *produce.Request) { r.Timeout = 1 << 31 }, api.ErrRange, api.ErrRange},
		{func(r *produce.Request) { r.Timeout, r.Topics = 1<<31, nil }, api.ErrRange, api.ErrRange},
	})
	check(t, many, []change{
		{func(r *produce.Request) { r.ID = of(longest) }, api.ErrCount, api.OK},
		{func(r *produce.Request) { r.ID = none }, api.ErrCount, api.ErrAttr},
	})
}

// P20.1, 3
func TestCheckOfTopics(t *testing.T) {
	check(t, request, []change{
		{func(r *produce.Request) { r.Topics = nil }, api.ErrCount, api.ErrCount},
		{func(r *produce.Request) { r.Topics[0].Parts = nil }, api.ErrCount, api.ErrCount},
		{func(r *produce.Request) { r.Topics[1].Parts = parts() }, api.ErrCount, api.ErrCount},
		{func(r *produce.Request) { r.Topics[0].Name, r.Topics[0].Parts = "", nil }, api.ErrCount, api.ErrCount},
		{func(r *produce.Request) { r.Topics[0].Name, r.Topics[1].Parts = "", nil }, api.ErrOrder, api.ErrOrder}, // topic by topic
		{func(r *produce.Request) { r.Topics[0].Name = "" }, api.ErrOrder, api.ErrOrder},
		{func(r *produce.Request) { r.Topics[0].Name = "ab" }, api.ErrOrder, api.ErrOrder},
		{func(r *produce.Request) { r.Topics[0].Name = "b" }, api.ErrOrder, api.ErrOrder},
		{func(r *produce.Request) { r.Topics[1].Name = "A" }, api.ErrOrder, api.ErrOrder},
		{func(r *produce.Request) { r.Topics[1].Name = "\xFF" }, api.OK, api.OK},
		{func(r *produce.Request) { r.Topics[0].Name = "\x00" }, api.OK, api.OK},
		{func(r *produce.Request) { r.Topics[1].Name = longest }, api.OK, api.OK},
		{func(r *produce.Request) { r.Topics[1].Name = longest + "x" }, api.ErrOrder, api.ErrOrder},
		{func(r *produce.Request) { r.Topics[0].Parts[0].Index = -1 }, api.ErrOrder, api.ErrOrder},
		{func(r *produce.Request) { r.Topics[0].Parts[0].Index = 7 }, api.ErrOrder, api.ErrOrder},
		{func(r *produce.Request) { r.Topics[0].Parts[0].Index = 8 }, api.ErrOrder, api.ErrOrder},
		{func(r *produce.Request) { r.Topics[0].Parts[0].Index = 6 }, api.OK, api.OK},
		{func(r *produce.Request) { r.Topics[0].Parts[1].Index = 1 << 31 }, api.ErrOrder, api.ErrOrder},
		{func(r *produce.Request) { r.Topics[1].Parts[0].Index = 0 }, api.OK, api.OK},
		{func(r *produce.Request) { r.Topics[1].Parts[0].Index = math.MinInt }, api.ErrOrder, api.ErrOrder},
		{func(r *produce.Request) { r.Topics = append(r.Topics, r.Topics[0]) }, api.ErrOrder, api.ErrOrder},
		{func(r *produce.Request) { r.Topics[1].Name, r.Topics[0].Parts[0].Batches = "a", nil }, api.ErrOrder, api.ErrOrder}, // ahead of what is in parts
		{func(r *produce.Request) { r.Topics[1].Parts, r.Topics[0].Parts[0].Batches[0] = nil, wrong() }, api.ErrCount, api.ErrCount},
	})
}

// P20.1, 4
func TestCheckOfParts(t *testing.T) {
	check(t, request, []change{
		{func(r *produce.Request) { r.Topics[0].Parts[1].Batches = nil }, api.ErrCount, api.ErrCount},
		{func(r *produce.Request) { r.Topics[1].Parts[0].Batches = []api.Batch{} }, api.ErrCount, api.ErrCount},
		{func(r *produce.Request) { r.Topics[1].Parts[0].Batches = []api.Batch{plain(3), plain(2)} }, api.ErrCount, api.OK},
		{func(r *produce.Request) { r.Topics[1].Parts[0].Batches = []api.Batch{wrong(), plain(2)} }, api.ErrCount, api.ErrRange},
		{func(r *produce.Request) { r.Topics[1].Parts[0].Batches = []api.Batch{plain(3), wrong()} }, api.ErrCount, api.ErrRange},
		{func(r *produce.Request) { r.Topics[1].Parts[0].Batches[0] = wrong() }, api.ErrRange, api.ErrRange},
		{func(r *produce.Request) {
			r.Topics[0].Parts[0].Batches, r.Topics[1].Parts[0].Batches[0] = nil, wrong()
		}, api.ErrCount, api.ErrCount},
		{func(r *produce.Request) {
			r.Topics[0].Parts[0].Batches[0], r.Topics[0].Parts[1].Batches = wrong(), nil
		}, api.ErrRange, api.ErrRange},
		{func(r *produce.Request) { r.Topics[0].Parts[1].Batches[0] = ofTxn(0) }, api.ErrAttr, api.ErrAttr},
		{func(r *produce.Request) { r.Topics[0].Parts[1].Batches[0] = ending() }, api.ErrKind, api.ErrKind},
		{func(r *produce.Request) { b := ofTxn(0); b.Max = 1; r.Topics[0].Parts[0].Batches[0] = b }, api.ErrRange, api.ErrRange},
		{func(r *produce.Request) { b := ending(); b.Txn = false; r.Topics[0].Parts[0].Batches[0] = b }, api.ErrAttr, api.ErrAttr},
		{func(r *produce.Request) { b := ending(); b.Records = nil; r.Topics[0].Parts[0].Batches[0] = b }, api.ErrCount, api.ErrCount},
	})
	check(t, many, []change{
		{func(r *produce.Request) {}, api.ErrCount, api.OK},
		{func(r *produce.Request) { r.Topics[0].Parts[0].Batches = []api.Batch{ofTxn(0)} }, api.OK, api.OK},
		{func(r *produce.Request) { r.Topics[0].Parts[0].Batches = []api.Batch{plain(0)} }, api.ErrAttr, api.ErrAttr},
		{func(r *produce.Request) { r.Topics[0].Parts[0].Batches = []api.Batch{ending()} }, api.ErrKind, api.ErrKind},
		{func(r *produce.Request) { r.Topics[0].Parts[0].Batches[2] = plain(0) }, api.ErrCount, api.ErrAttr},
		{func(r *produce.Request) { r.Topics[0].Parts[0].Batches[1] = ending() }, api.ErrCount, api.ErrKind},
		{func(r *produce.Request) {
			r.Topics[0].Parts[0].Batches = []api.Batch{ofTxn(0), plain(0), wrong()}
		}, api.ErrCount, api.ErrAttr},
	})
}

// P20.3
func TestReadOfWrongBytes(t *testing.T) {
	good := bytesOf(ofTxn(1))
	badSum := good[:len(good)-1] + "!"
	head := manyAhead[:10] // up to the Timeout
	for i, x := range []struct {
		s string
		e api.Errno
	}{
		{manyAhead + sized(good), api.OK},
		{"\xFF\xFE" + manyAhead[4:] + sized(good), api.ErrLength},
		{"\x00\x00" + manyAhead[4:] + sized(good), api.ErrLength},
		{"\xFF\xFF" + manyAhead[4:] + sized(good), api.ErrAttr},
		{manyAhead[:4] + "\x00\x02" + manyAhead[6:] + sized(good), api.ErrRange},
		{manyAhead[:4] + "\xFF\xFE" + manyAhead[6:] + sized(good), api.ErrRange},
		{manyAhead[:6] + "\xFF\xFF\xFF\xFF" + manyAhead[10:] + sized(good), api.ErrRange},
		{head + "\xFF\xFF\xFF\xFF" + "abcdefgh", api.ErrLength},
		{head + "\x00\x00\x00\x00", api.ErrCount},
		{head + "\x00\x00\x00\x01" + "\xFF\xFF\x00\x00\x00", api.ErrShort}, // fewer than six bytes a topic, whatever they are
		{head + "\x00\x00\x00\x01" + "\xFF\xFF\x00\x00\x00\x00", api.ErrLength},
		{head + "\x00\x00\x00\x01" + "\x00\x00\x00\x00\x00\x00", api.ErrCount},
		{head + "\x00\x00\x00\x01" + "\x00\x01t" + "\x00\x00\x00\x00", api.ErrCount},
		{head + "\x00\x00\x00\x01" + "\x00\x01t" + "\xFF\xFF\xFF\xFF", api.ErrLength},
		{head + "\x00\x00\x00\x01" + "\x00\x01t" + "\x00\x00\x00\x01" + "\x00\x00\x00\x00\xFF\xFF\xFF", api.ErrShort}, // fewer than eight a part
		{head + "\x00\x00\x00\x01" + "\x00\x01t" + "\x00\x00\x00\x02" + "\x00\x00\x00\x00\xFF\xFF\xFF\xFF" + "1234567", api.ErrShort},
		{head + "\x00\x00\x00\x01" + "\x00\x01t" + "\x00\x00\x00\x02" + "\x00\x00\x00\x00\xFF\xFF\xFF\xFF" + "12345678", api.ErrLength},
		{head + "\x00\x00\x00\x01" + "\x00\x00" + "\x00\x00\x00\x01" + "\x00\x00\x00\x00" + sized(good), api.ErrOrder},
		{head + "\x00\x00\x00\x01" + "\x00\x01t" + "\x00\x00\x00\x01" + "\xFF\xFF\xFF\xFF" + sized(good), api.ErrOrder},
		{manyAhead + "\xFF\xFF\xFF\xFF", api.ErrLength}, // no batches, not even none
		{manyAhead + "\xFF\xFF\xFF\xFE", api.ErrLength},
		{manyAhead + "\x00\x00\x00\x00", api.ErrCount},
		{manyAhead + "\x00\x00\x00\x01", api.ErrShort},
		{manyAhead + sized(good[:60]), api.ErrShort},
		{manyAhead + sized(good[:len(good)-1]), api.ErrShort},
		{manyAhead + sized(good+"z"), api.ErrShort},
		{manyAhead + sized(badSum), api.ErrSum},
		{manyAhead + sized(good+badSum), api.ErrSum},
		{manyAhead + sized(good+badSum+badSum[:5]), api.ErrSum},
		{manyAhead + sized(good[:16]+"\x01"+good[17:]), api.ErrMagic},
		{manyAhead + sized(bytesOf(plain(1))), api.ErrAttr},
		{manyAhead + sized(bytesOf(ending())), api.ErrKind},
		{manyAhead + sized(bytesOf(ofTxn(1), ending())), api.ErrKind},
		{"\x00\x00" + manyAhead[4:] + sized(badSum), api.ErrSum}, // field by field, ahead of Check
		{manyAhead[:4] + "\x00\x09" + manyAhead[6:] + "\xFF\xFF\xFF\xFF", api.ErrLength},
	} {
		in := input.New(x.s)
		if r := produce.Read(in, 4); in.Err() != x.e || x.e != api.OK && !produce.Same(r, produce.Request{}) {
			t.Errorf("Read of the %dth: %v, %v, not %v", i, r, in.Err(), x.e)
		}
	}
	in := input.New(manyBytes())
	if r := produce.Read(in, 3); in.Err() != api.ErrCount || !produce.Same(r, produce.Request{}) {
		t.Errorf("Read of three batches in version 3: %v, %v", r, in.Err())
	}
}

// P20.3
func TestSame(t *testing.T) {
	if !produce.Same(request(), request()) || !produce.Same(produce.Request{}, produce.Request{Topics: []produce.Topic{}}) {
		t.Error("the same ones aren't")
	}
	for i, do := range []func(*produce.Request){
		func(r *produce.Request) { r.ID = of("") },
		func(r *produce.Request) { r.ID.Data = "x" },
		func(r *produce.Request) { r.Acks = 0 },
		func(r *produce.Request) { r.Timeout++ },
		func(r *produce.Request) { r.Topics = nil },
		func(r *produce.Request) { r.Topics = r.Topics[:1] },
		func(r *produce.Request) { r.Topics = append(r.Topics, produce.Topic{}) },
		func(r *produce.Request) { r.Topics[1].Name = "x" },
		func(r *produce.Request) { r.Topics[0].Parts = nil },
		func(r *produce.Request) { r.Topics[0].Parts = r.Topics[0].Parts[1:] },
		func(r *produce.Request) { r.Topics[0].Parts[1].Index = 8 },
		func(r *produce.Request) { r.Topics[0].Parts[1].Batches = nil },
		func(r *produce.Request) { r.Topics[0].Parts[1].Batches[0].Base++ },
		func(r *produce.Request) { r.Topics[0].Parts[1].Batches[0].Records[0].Value = of("w") },
		func(r *produce.Request) {
			r.Topics[0].Parts[1].Batches = append(r.Topics[0].Parts[1].Batches, plain(5))
		},
		func(r *produce.Request) { slices.Reverse(r.Topics) },
	} {
		r := request()
		do(&r)
		if produce.Same(r, request()) || produce.Same(request(), r) || !produce.Same(r, r) {
			t.Error("others are the same", i)
		}
	}
}

// P1, P2: other versions end, too; once something went wrong, nothing is read or written; what is handed in isn't changed, what is answered is new memory.
func TestMemory(t *testing.T) {
	for _, version := range []int{math.MinInt, -1, 0, 2, 5, math.MaxInt} {
		var out output.Output
		many().Check(version)
		many().Write(&out, version)
		produce.Read(input.New(manyBytes()), version)
	}
	in := input.New(manyBytes())
	in.Fail(api.ErrWord)
	if r := produce.Read(in, 4); !produce.Same(r, produce.Request{}) || in.Err() != api.ErrWord || in.At() != 0 {
		t.Error("a request was read", r, in.Err())
	}
	var out output.Output
	out.Fail(api.ErrWord)
	r := request()
	r.Write(&out, 4)
	many().Write(&out, 3)
	if out.Len() != 0 || out.Err() != api.ErrWord {
		t.Error("a request was written", out.Err())
	}
	out = output.Output{}
	r.Write(&out, 4)
	if !produce.Same(r, request()) {
		t.Error("a request was changed")
	}
	first := produce.Read(input.New(requestBytes()), 4)
	first.Topics[0].Parts[0].Batches[0].Records[0].Offset = 9
	first.Topics[0].Parts[1].Index = 9
	first.Topics[1].Name = "x"
	if second := produce.Read(input.New(requestBytes()), 4); !produce.Same(second, request()) {
		t.Error("two answers share memory")
	}
}
