package batch_test

import (
	"encoding/binary"
	"hash/crc32"
	"math"
	"slices"
	"strings"
	"testing"

	"cursitor/api"
	"cursitor/batch"
	"cursitor/input"
)

var (
	none  = api.Blob{Null: true}
	wrong = api.Blob{Null: true, Data: "x"}
)

func of(s string) api.Blob { return api.Blob{Data: s} }

// empty is a batch without records, of nobody.
func empty() api.Batch {
	return api.Batch{Leader: -1, Producer: -1, Epoch: -1, Sequence: -1}
}

// plain is one of three records, of nobody.
func plain() api.Batch {
	b := empty()
	b.Base, b.Leader, b.Last, b.First, b.Max = 1000, 3, 7, 5000, 5010
	b.Records = []api.Record{
		{Time: 0, Offset: 0, Key: none, Value: of("v")},
		{Time: 10, Offset: 3, Key: of("k"), Value: none, Headers: []api.Header{{Key: "h", Value: of("w")}, {Key: "i", Value: none}}},
		{Time: -5000, Offset: 7},
	}
	return b
}

// ofTxn is one of a transaction.
func ofTxn() api.Batch {
	b := plain()
	b.Txn, b.Producer, b.Epoch, b.Sequence = true, 77, 6, 5
	return b
}

// ending is one that ends a transaction.
func ending() api.Batch {
	b := ofTxn()
	b.Control, b.Sequence, b.Last, b.Max = true, -1, 0, 5000
	b.Records = []api.Record{{Key: of("\x00\x00\x00\x01"), Value: of("\x00\x00\x00\x00\x00\x09")}}
	return b
}

// The bytes of their records.
const (
	plainRows  = "\x0E\x00\x00\x00\x01\x02v\x00" + "\x1C\x00\x14\x06\x02k\x01\x04\x02h\x02w\x02i\x01" + "\x0E\x00\x8F\x4E\x0E\x00\x00\x00"
	endingRows = "\x20\x00\x00\x00\x08\x00\x00\x00\x01\x0C\x00\x00\x00\x00\x00\x09\x00"
)

// said is the numbers of a prefix.
type said struct {
	magic  int8
	attr   int16
	length int32 // above that of the bytes that are there
	sum    uint32
	count  int32
}

// laid is the bytes of a batch's fields, of what is said of it, and of its records; bits of the sum are turned.
func laid(b api.Batch, x said, rows string) string {
	var s []byte
	be := binary.BigEndian
	s = be.AppendUint64(s, uint64(b.Base))
	s = be.AppendUint32(s, uint32(49+len(rows)+int(x.length)))
	s = be.AppendUint32(s, uint32(b.Leader))
	s = append(s, byte(x.magic))
	var t []byte
	t = be.AppendUint16(t, uint16(x.attr))
	t = be.AppendUint32(t, uint32(b.Last))
	t = be.AppendUint64(t, uint64(b.First))
	t = be.AppendUint64(t, uint64(b.Max))
	t = be.AppendUint64(t, uint64(b.Producer))
	t = be.AppendUint16(t, uint16(b.Epoch))
	t = be.AppendUint32(t, uint32(b.Sequence))
	t = be.AppendUint32(t, uint32(x.count))
	t = append(t, rows...)
	s = be.AppendUint32(s, crc32.Checksum(t, crc32.MakeTable(crc32.Castagnoli))^x.sum)
	return string(append(s, t...))
}

// mays are batches that may be, and their bytes.
func mays() []struct {
	b api.Batch
	s string
} {
	type row = struct {
		b api.Batch
		s string
	}
	add := func(b api.Batch, attr int16, rows string) row {
		return row{b, laid(b, said{magic: 2, attr: attr, count: int32(len(b.Records))}, rows)}
	}
	l := []row{add(empty(), 0, ""), add(plain(), 0, plainRows), add(ofTxn(), 16, plainRows), add(ending(), 48, endingRows)}
	b := ofTxn()
	b.Txn = false // a producer may write without a transaction
	l = append(l, add(b, 0, plainRows))
	b.Append, b.Max = true, 0
	l = append(l, add(b, 8, plainRows))
	b.Txn, b.Max = true, math.MaxInt
	l = append(l, add(b, 24, plainRows))
	b = ending()
	b.Append, b.Max, b.Last = true, 3, 4
	l = append(l, add(b, 56, endingRows))
	b = empty()
	b.Base, b.Last, b.Leader, b.First, b.Max = math.MaxInt-(1<<31-1), 1<<31-1, 1<<31-1, math.MaxInt, math.MaxInt
	l = append(l, add(b, 0, ""))
	b.Base, b.Last, b.Producer, b.Epoch, b.Sequence = math.MaxInt, 0, math.MaxInt, 1<<15-1, 1<<31-1
	l = append(l, add(b, 0, ""))
	b.Producer, b.Epoch, b.Sequence = 0, 0, 0
	l = append(l, add(b, 0, ""))
	return l
}

// P11.1, P11.2, P11.3
func TestBatchesThatMayBe(t *testing.T) {
	for i, x := range mays() {
		if e := batch.Check(x.b); e != api.OK {
			t.Errorf("Check of the %dth: %v", i, e)
		}
		if s, e := batch.Encode(x.b); s != x.s || e != api.OK {
			t.Errorf("Encode of the %dth: %q, %v, not %q", i, s, e, x.s)
		}
		if b, e := batch.Decode(x.s); !batch.Same(b, x.b) || e != api.OK {
			t.Errorf("Decode of the %dth: %v, %v", i, b, e)
		}
		in := input.New(x.s + "z")
		if b := batch.Read(in); !batch.Same(b, x.b) || in.At() != len(x.s) || in.Err() != api.OK {
			t.Errorf("Read of the %dth: %v, %v", i, b, in.Err())
		}
		if b, e := batch.Decode(x.s + "z"); !batch.Same(b, api.Batch{}) || e != api.ErrLong {
			t.Errorf("Decode of the %dth and more: %v, %v", i, b, e)
		}
		for n := range len(x.s) {
			if b, e := batch.Decode(x.s[:n]); !batch.Same(b, api.Batch{}) || e != api.ErrShort {
				t.Errorf("Decode of %d bytes of the %dth: %v, %v", n, i, b, e)
			}
		}
	}
	if s, _ := batch.Encode(empty()); len(s) != 61 {
		t.Error("a batch without records has another size than 61:", len(s))
	}
}

// change is a way to make another batch of one, and what Check says of it then.
type change struct {
	do func(*api.Batch)
	e  api.Errno
}

// check holds Check, Encode and All of changed batches against what is said of them.
func check(t *testing.T, from func() api.Batch, l []change) {
	t.Helper()
	for i, x := range l {
		b := from()
		x.do(&b)
		if e := batch.Check(b); e != x.e {
			t.Errorf("Check of the %dth: %v, not %v", i, e, x.e)
		}
		s, e := batch.Encode(b)
		if e != x.e || x.e != api.OK && s != "" {
			t.Errorf("Encode of the %dth: %q, %v", i, s, e)
		}
		if back, e := batch.Decode(s); x.e == api.OK && (e != api.OK || !batch.Same(back, b)) {
			t.Errorf("the %dth, and back: %v, %v", i, back, e)
		}
		all, e := batch.All(empty(), b, empty())
		if e != x.e || x.e != api.OK && all != "" {
			t.Errorf("All of the %dth: %q, %v", i, all, e)
		}
	}
}

// P11.1, 1
func TestPlaces(t *testing.T) {
	check(t, empty, []change{
		{func(b *api.Batch) { b.Base = -1 }, api.ErrRange},
		{func(b *api.Batch) { b.Base = math.MinInt }, api.ErrRange},
		{func(b *api.Batch) { b.Base = math.MaxInt }, api.OK},
		{func(b *api.Batch) { b.Leader = -2 }, api.ErrRange},
		{func(b *api.Batch) { b.Leader = 0 }, api.OK},
		{func(b *api.Batch) { b.Leader = 1<<31 - 1 }, api.OK},
		{func(b *api.Batch) { b.Leader = 1 << 31 }, api.ErrRange},
		{func(b *api.Batch) { b.Last = -1 }, api.ErrRange},
		{func(b *api.Batch) { b.Last = 1<<31 - 1 }, api.OK},
		{func(b *api.Batch) { b.Last = 1 << 31 }, api.ErrRange},
		{func(b *api.Batch) { b.Last = math.MinInt }, api.ErrRange},
		{func(b *api.Batch) { b.Base, b.Last = math.MaxInt, 1 }, api.ErrRange},
		{func(b *api.Batch) { b.Base, b.Last = math.MaxInt-5, 5 }, api.OK},
		{func(b *api.Batch) { b.Base, b.Last = math.MaxInt-5, 6 }, api.ErrRange},
		{func(b *api.Batch) { b.First, b.Max = -1, -1 }, api.ErrRange},
		{func(b *api.Batch) { b.First = -1 }, api.ErrRange},
		{func(b *api.Batch) { b.First = math.MinInt }, api.ErrRange},
		{func(b *api.Batch) { b.Append, b.First, b.Max = true, -1, 0 }, api.ErrRange},
		{func(b *api.Batch) { b.Max = -1 }, api.ErrRange},
		{func(b *api.Batch) { b.Append, b.Max = true, -1 }, api.ErrRange},
		{func(b *api.Batch) { b.Append, b.Max = true, 5 }, api.OK},
		{func(b *api.Batch) { b.Base, b.Control = -1, true }, api.ErrRange}, // ahead of the next one
	})
}

// P11.1, 2 and 3
func TestWhoWrote(t *testing.T) {
	check(t, empty, []change{
		{func(b *api.Batch) { b.Control = true }, api.ErrAttr},
		{func(b *api.Batch) { b.Control, b.Epoch = true, 0 }, api.ErrAttr},
		{func(b *api.Batch) { b.Txn = true }, api.ErrRange},
		{func(b *api.Batch) { b.Epoch = 0 }, api.ErrRange},
		{func(b *api.Batch) { b.Sequence = 0 }, api.ErrRange},
		{func(b *api.Batch) { b.Txn, b.Control = true, true }, api.ErrRange},
		{func(b *api.Batch) { b.Producer = 0 }, api.ErrRange},
		{func(b *api.Batch) { b.Producer = -2 }, api.ErrRange},
	})
	check(t, ofTxn, []change{
		{func(b *api.Batch) { b.Producer = -1 }, api.ErrRange},
		{func(b *api.Batch) { b.Producer = -2 }, api.ErrRange},
		{func(b *api.Batch) { b.Producer = math.MinInt }, api.ErrRange},
		{func(b *api.Batch) { b.Producer = 0 }, api.OK},
		{func(b *api.Batch) { b.Producer = math.MaxInt }, api.OK},
		{func(b *api.Batch) { b.Epoch = -1 }, api.ErrRange},
		{func(b *api.Batch) { b.Epoch = 0 }, api.OK},
		{func(b *api.Batch) { b.Epoch = 1<<15 - 1 }, api.OK},
		{func(b *api.Batch) { b.Epoch = 1 << 15 }, api.ErrRange},
		{func(b *api.Batch) { b.Sequence = -1 }, api.ErrRange},
		{func(b *api.Batch) { b.Sequence = 0 }, api.OK},
		{func(b *api.Batch) { b.Sequence = 1<<31 - 1 }, api.OK},
		{func(b *api.Batch) { b.Sequence = 1 << 31 }, api.ErrRange},
		{func(b *api.Batch) { b.Sequence = -2 }, api.ErrRange},
		{func(b *api.Batch) { b.Txn = false }, api.OK},
		{func(b *api.Batch) { b.Records = nil; b.Max = b.First }, api.OK},
		{func(b *api.Batch) { b.Producer, b.Epoch, b.Sequence = -1, -1, -1 }, api.ErrRange},
		{func(b *api.Batch) { b.Producer, b.Epoch, b.Sequence, b.Txn = -1, -1, -1, false }, api.OK},
		{func(b *api.Batch) { b.Producer, b.Epoch, b.Txn = -1, -1, false }, api.ErrRange},
		{func(b *api.Batch) { b.Producer, b.Sequence, b.Txn = -1, -1, false }, api.ErrRange},
	})
	check(t, ending, []change{
		{func(b *api.Batch) { b.Sequence = 0 }, api.ErrRange},
		{func(b *api.Batch) { b.Sequence = -2 }, api.ErrRange},
		{func(b *api.Batch) { b.Sequence = 5 }, api.ErrRange},
		{func(b *api.Batch) { b.Txn = false }, api.ErrAttr},
		{func(b *api.Batch) { b.Txn, b.Sequence = false, 0 }, api.ErrAttr},
		{func(b *api.Batch) { b.Control = false }, api.ErrRange},
		{func(b *api.Batch) { b.Producer, b.Epoch = -1, -1 }, api.ErrRange},
		{func(b *api.Batch) { b.Epoch = -1 }, api.ErrRange},
		{func(b *api.Batch) { b.Sequence, b.Records = 0, nil }, api.ErrRange},
	})
}

// P11.1, 4 to 6
func TestRecords(t *testing.T) {
	check(t, ending, []change{
		{func(b *api.Batch) { b.Records = nil }, api.ErrCount},
		{func(b *api.Batch) { b.Records = append(b.Records, b.Records[0]) }, api.ErrCount},
		{func(b *api.Batch) { b.Records = []api.Record{{Offset: -1}, {}} }, api.ErrCount},
		{func(b *api.Batch) { b.Records[0].Offset = -1 }, api.ErrRange},
		{func(b *api.Batch) { b.Records[0].Key = wrong }, api.ErrLength},
		{func(b *api.Batch) { b.Records[0].Value = wrong }, api.ErrLength},
		{func(b *api.Batch) { b.Records[0].Key = none }, api.ErrKind},
		{func(b *api.Batch) { b.Records[0].Value = none }, api.ErrKind},
		{func(b *api.Batch) { b.Records[0].Offset, b.Last = 1, 1 }, api.ErrKind},
		{func(b *api.Batch) { b.Records[0].Headers = []api.Header{{}} }, api.ErrKind},
		{func(b *api.Batch) { b.Records[0].Key = of("\x00\x00\x00\x02") }, api.ErrKind},
		{func(b *api.Batch) { b.Records[0].Key = of("\x00\x01\x00\x01") }, api.ErrVersion},
		{func(b *api.Batch) { b.Records[0].Key = of("\x00\x00\x00") }, api.ErrShort},
		{func(b *api.Batch) { b.Records[0].Key = of("\x00\x00\x00\x01\x00") }, api.ErrLong},
		{func(b *api.Batch) { b.Records[0].Value = of("\x00\x00\xFF\xFF\xFF\xFF") }, api.ErrRange},
		{func(b *api.Batch) { b.Records[0].Value = of("") }, api.ErrShort},
		{func(b *api.Batch) { b.Records[0].Key, b.Records[0].Time = none, -5001 }, api.ErrKind},
		{func(b *api.Batch) { b.Records[0].Time = -5001 }, api.ErrRange},
		{func(b *api.Batch) { b.Records[0].Time = -5000 }, api.OK},
		{func(b *api.Batch) { b.Records[0].Time = 1 }, api.ErrRange},
		{func(b *api.Batch) { b.Records[0].Time, b.Max = 1, 5001 }, api.OK},
	})
	check(t, plain, []change{
		{func(b *api.Batch) { b.Records[2].Offset = -1 }, api.ErrRange},
		{func(b *api.Batch) { b.Records[1].Offset = 1 << 31 }, api.ErrRange},
		{func(b *api.Batch) { b.Records[1].Key = wrong }, api.ErrLength},
		{func(b *api.Batch) { b.Records[1].Headers[1].Value = wrong }, api.ErrLength},
		{func(b *api.Batch) { b.Records[1].Key, b.Records[2].Offset = wrong, -1 }, api.ErrLength},
		{func(b *api.Batch) { b.Records[1].Offset, b.Records[2].Key = -1, wrong }, api.ErrRange},
		{func(b *api.Batch) { b.Records[0].Offset, b.Records[2].Key = 5, wrong }, api.ErrLength},
		{func(b *api.Batch) { b.Records[0].Time, b.Records[2].Key = -5001, wrong }, api.ErrLength},
		{func(b *api.Batch) { b.Records[0].Key, b.Records[0].Value = of("\x00\x00\x00\x01"), none }, api.OK},
	})
}

// P11.1, 7 and 8
func TestOrder(t *testing.T) {
	check(t, plain, []change{
		{func(b *api.Batch) { b.Records[0].Offset = 3 }, api.ErrOrder},
		{func(b *api.Batch) { b.Records[0].Offset = 4 }, api.ErrOrder},
		{func(b *api.Batch) { b.Records[0].Offset = 2 }, api.OK},
		{func(b *api.Batch) { b.Records[1].Offset = 0 }, api.ErrOrder},
		{func(b *api.Batch) { b.Records[1].Offset = 1 }, api.OK},
		{func(b *api.Batch) { b.Records[1].Offset = 7 }, api.ErrOrder},
		{func(b *api.Batch) { b.Records[2].Offset = 8 }, api.ErrOrder},
		{func(b *api.Batch) { b.Last = 6 }, api.ErrOrder},
		{func(b *api.Batch) { b.Last = 8 }, api.OK},
		{func(b *api.Batch) { b.Last, b.Records[2].Offset = 1<<31-1, 1<<31-1 }, api.OK},
		{func(b *api.Batch) { b.Records[0].Time = -5001 }, api.ErrRange},
		{func(b *api.Batch) { b.Records[2].Time = -5001 }, api.ErrRange},
		{func(b *api.Batch) { b.Records[2].Time = math.MinInt }, api.ErrRange},
		{func(b *api.Batch) { b.Records[1].Time = math.MaxInt }, api.ErrRange},
		{func(b *api.Batch) { b.Records[1].Time, b.Max = math.MaxInt-5000, math.MaxInt }, api.OK},
		{func(b *api.Batch) { b.Records[1].Time, b.Max = math.MaxInt-4999, math.MaxInt }, api.ErrRange},
		{func(b *api.Batch) { b.Records[0].Time, b.Records[1].Offset = -5001, 0 }, api.ErrRange},
		{func(b *api.Batch) { b.Records[1].Offset, b.Records[1].Time = 0, -5001 }, api.ErrOrder},
		{func(b *api.Batch) { b.Records[1].Offset, b.Records[2].Time = 0, -5001 }, api.ErrOrder},
		{func(b *api.Batch) { b.Max = 5009 }, api.ErrRange},
		{func(b *api.Batch) { b.Max = 5011 }, api.ErrRange},
		{func(b *api.Batch) { b.Max = 5000 }, api.ErrRange},
		{func(b *api.Batch) { b.Max, b.Records[2].Offset = 0, 3 }, api.ErrOrder},
		{func(b *api.Batch) { b.Append, b.Max = true, 5009 }, api.OK},
		{func(b *api.Batch) { b.Append, b.Max = true, 0 }, api.OK},
		{func(b *api.Batch) { b.Append, b.Records[2].Time = true, -5001 }, api.ErrRange},
		{func(b *api.Batch) { b.Append, b.Records[1].Offset = true, 0 }, api.ErrOrder},
		{func(b *api.Batch) { b.Records[0].Time, b.Records[1].Time, b.Max = -1, -2, 5000 }, api.OK},
		{func(b *api.Batch) { b.Records[0].Time, b.Records[1].Time, b.Max = -1, -2, 4999 }, api.ErrRange},
		{func(b *api.Batch) { b.Records[0].Time, b.Max = 20, 5020 }, api.OK},
		{func(b *api.Batch) { b.Records[2].Time, b.Max = 20, 5020 }, api.OK},
		{func(b *api.Batch) { b.Records[2].Time, b.Max = 20, 5010 }, api.ErrRange},
		{func(b *api.Batch) { b.Records = nil }, api.ErrRange},
		{func(b *api.Batch) { b.Records, b.Max = nil, 5000 }, api.OK},
	})
	check(t, empty, []change{{func(b *api.Batch) { b.Max = 1 }, api.ErrRange},
		{func(b *api.Batch) { b.First = 1 }, api.ErrRange},
		{func(b *api.Batch) { b.First, b.Max = 1, 1 }, api.OK}})
}

// P11.3
func TestReadOfWrongBytes(t *testing.T) {
	count := int32(3)
	ok := said{magic: 2, count: count}
	b := plain()
	other := func(do func(*api.Batch)) api.Batch { b := plain(); do(&b); return b }
	for i, x := range []struct {
		s string
		e api.Errno
	}{
		{laid(b, ok, plainRows), api.OK},
		{laid(b, said{magic: 1, count: count}, plainRows), api.ErrMagic},
		{laid(b, said{magic: 3, count: count}, plainRows), api.ErrMagic},
		{laid(b, said{magic: 1, count: count, sum: 1}, plainRows), api.ErrMagic},
		{laid(b, said{magic: 2, length: -40}, plainRows), api.ErrLength},
		{laid(b, said{magic: 2, length: -80, count: -1}, plainRows), api.ErrLength},
		{laid(b, said{magic: 2, count: -1, sum: 1}, plainRows), api.ErrCount},
		{laid(b, said{magic: 2, length: 1, count: count}, plainRows), api.ErrShort},
		{laid(b, said{magic: 2, length: 1 << 30, count: count, sum: 1}, plainRows), api.ErrShort},
		{laid(b, said{magic: 2, length: -1, count: count}, plainRows), api.ErrSum},
		{laid(b, said{magic: 2, count: count, sum: 1}, plainRows), api.ErrSum},
		{laid(b, said{magic: 2, count: count, sum: 1 << 31}, plainRows), api.ErrSum},
		{laid(b, said{magic: 2, count: count, sum: 1 << 31, attr: 1}, plainRows), api.ErrSum},
		{laid(b, said{magic: 2, count: count, attr: 1}, plainRows), api.ErrCodec},
		{laid(b, said{magic: 2, count: 0, attr: 4 + 64}, plainRows), api.ErrCodec},
		{laid(b, said{magic: 2, count: count, attr: 64}, plainRows), api.ErrAttr},
		{laid(b, said{magic: 2, count: count, attr: 32}, plainRows), api.ErrAttr},
		{laid(b, said{magic: 2, count: count, attr: -1 << 15}, plainRows), api.ErrAttr},
		{laid(b, said{magic: 2, count: 4, attr: 64}, plainRows), api.ErrAttr},
		{laid(b, said{magic: 2, count: 4}, plainRows), api.ErrCount},
		{laid(b, said{magic: 2, count: 1<<31 - 1}, plainRows), api.ErrCount},
		{laid(b, said{magic: 2, count: 2}, plainRows), api.ErrCount},
		{laid(b, said{magic: 2, count: 0}, plainRows), api.ErrCount},
		{laid(b, said{magic: 2, count: 1}, ""), api.ErrCount},
		{laid(b, ok, plainRows[:len(plainRows)-1]), api.ErrShort},
		{laid(b, ok, plainRows+"\x00"), api.ErrCount},
		{laid(b, said{magic: 2, count: 4}, plainRows+"\x00"), api.ErrShort},
		{laid(b, said{magic: 2, count: 1}, "\x0E\x01\x00\x00\x01\x02v\x00"), api.ErrAttr},
		{laid(b, said{magic: 2, count: 1}, "\x0E\x00\x00\x01\x01\x02v\x00"), api.ErrRange},
		{laid(b, said{magic: 2, count: 1}, "\x10\x00\x00\x00\x01\x02v\x00\x00"), api.ErrLong},
		{laid(b, said{magic: 2, count: 2}, "\x01\x0E"), api.ErrLength},
		{laid(b, said{magic: 2, count: 9}, "\x80\x00"), api.ErrVarint},
		{laid(other(func(b *api.Batch) { b.Base = -1 }), ok, plainRows), api.ErrRange},
		{laid(other(func(b *api.Batch) { b.Leader = -2 }), ok, plainRows), api.ErrRange},
		{laid(other(func(b *api.Batch) { b.Last = 6 }), ok, plainRows), api.ErrOrder},
		{laid(other(func(b *api.Batch) { b.Max = 6 }), ok, plainRows), api.ErrRange},
		{laid(other(func(b *api.Batch) { b.Producer = 1 }), ok, plainRows), api.ErrRange},
		{laid(b, said{magic: 2, count: count, attr: 16}, plainRows), api.ErrRange},
		{laid(ending(), said{magic: 2, count: 1, attr: 48}, endingRows), api.OK},
		{laid(ending(), said{magic: 2, count: 2, attr: 48}, endingRows+endingRows), api.ErrCount},
		{laid(ending(), said{magic: 2, count: 1, attr: 48}, "\x0C\x00\x00\x00\x01\x01\x00"), api.ErrKind},
		{laid(ending(), said{magic: 2, count: 1, attr: 16}, endingRows), api.ErrRange},
	} {
		got, e := batch.Decode(x.s)
		if e != x.e || x.e != api.OK && !batch.Same(got, api.Batch{}) {
			t.Errorf("Decode of the %dth: %v, %v, not %v", i, got, e, x.e)
		}
		in := input.New(x.s + laid(b, ok, plainRows)[:20])
		got = batch.Read(in)
		if x.e != api.ErrShort && in.Err() != x.e || x.e != api.OK && !batch.Same(got, api.Batch{}) {
			t.Errorf("Read of the %dth: %v, %v, not %v", i, got, in.Err(), x.e)
		}
	}
}

// P11.2, P11.3: each bit of a batch's bytes is held against its sum, or asked of otherwise.
func TestEachBitMatters(t *testing.T) {
	s := laid(ofTxn(), said{magic: 2, attr: 16, count: 3}, plainRows)
	for i := range len(s) {
		for bit := range 8 {
			turned := []byte(s)
			turned[i] ^= 1 << bit
			b, e := batch.Decode(string(turned))
			ahead := i < 8 || i >= 12 && i < 16 // Base and Leader aren't summed
			if !ahead && e == api.OK || e == api.OK && batch.Same(b, ofTxn()) || i >= 17 && e != api.ErrSum && e != api.ErrCount {
				t.Errorf("bit %d of the byte %d turned: %v", bit, i, e)
			}
		}
	}
}

// resummed is the bytes with a sum that is right.
func resummed(s string) string {
	b := []byte(s)
	binary.BigEndian.PutUint32(b[17:], crc32.Checksum(b[21:], crc32.MakeTable(crc32.Castagnoli)))
	return string(b)
}

// P11.2, P11.3: bytes that are changed anywhere are refused, or just those of what is read.
func TestOneSpelling(t *testing.T) {
	for _, x := range mays() {
		for i := range len(x.s) {
			for c := range 256 {
				s := resummed(x.s[:i] + string([]byte{byte(c)}) + x.s[i+1:])
				b, e := batch.Decode(s)
				if back, f := batch.Encode(b); e == api.OK && (back != s || f != api.OK) {
					t.Errorf("Decode of %q: %v, whose bytes are %q, %v", s, b, back, f)
				}
			}
		}
	}
}

// P11.2
func TestAll(t *testing.T) {
	if s, e := batch.All(); s != "" || e != api.OK {
		t.Errorf("All of none: %q, %v", s, e)
	}
	want := ""
	var l []api.Batch
	for _, x := range mays() {
		want += x.s
		l = append(l, x.b)
		if s, e := batch.All(l...); s != want || e != api.OK {
			t.Errorf("All of %d: %v", len(l), e)
		}
	}
	first, second := empty(), empty()
	first.Max, second.Control = 1, true
	if s, e := batch.All(empty(), first, second); s != "" || e != api.ErrRange {
		t.Errorf("All of wrong ones: %q, %v", s, e)
	}
	if s, e := batch.All(empty(), second, first); s != "" || e != api.ErrAttr {
		t.Errorf("All of wrong ones: %q, %v", s, e)
	}
}

// P11.3
func TestSame(t *testing.T) {
	full := func() api.Batch { b := ofTxn(); b.Append = true; return b }
	if !batch.Same(full(), full()) || !batch.Same(empty(), empty()) || !batch.Same(api.Batch{}, api.Batch{Records: []api.Record{}}) {
		t.Error("the same ones aren't")
	}
	for i, do := range []func(*api.Batch){
		func(b *api.Batch) { b.Base++ }, func(b *api.Batch) { b.Leader++ }, func(b *api.Batch) { b.Last++ }, func(b *api.Batch) { b.First++ }, func(b *api.Batch) { b.Max++ },
		func(b *api.Batch) { b.Producer++ }, func(b *api.Batch) { b.Epoch++ }, func(b *api.Batch) { b.Sequence++ },
		func(b *api.Batch) { b.Append = false }, func(b *api.Batch) { b.Txn = false }, func(b *api.Batch) { b.Control = true },
		func(b *api.Batch) { b.Leader += 1 << 32 }, func(b *api.Batch) { b.Epoch += 1 << 16 }, func(b *api.Batch) { b.Last += 1 << 32 }, func(b *api.Batch) { b.Sequence += 1 << 32 },
		func(b *api.Batch) { b.Records = nil }, func(b *api.Batch) { b.Records = b.Records[:2] }, func(b *api.Batch) { b.Records = append(b.Records, api.Record{}) },
		func(b *api.Batch) { b.Records[0].Time++ }, func(b *api.Batch) { b.Records[2].Key = none }, func(b *api.Batch) { b.Records[1].Headers[0].Value = of("") }, func(b *api.Batch) { b.Records[1].Headers = nil },
		func(b *api.Batch) { slices.Reverse(b.Records) },
	} {
		b := full()
		do(&b)
		if batch.Same(b, full()) || batch.Same(full(), b) || !batch.Same(b, b) {
			t.Error("others are the same", i)
		}
	}
}

// P2: what is handed in isn't changed, what is answered is new memory.
func TestMemory(t *testing.T) {
	b := plain()
	b.Records = append(make([]api.Record, 0, 10), b.Records...)
	spare := b.Records[:10]
	batch.Encode(b)
	batch.Check(b)
	batch.All(b, b)
	batch.Same(b, plain())
	if !batch.Same(b, plain()) || spare[3].Offset != 0 || spare[3].Headers != nil {
		t.Error("a batch was changed")
	}
	s, _ := batch.Encode(b)
	first, _ := batch.Decode(s)
	first.Records[0].Offset = 9
	first.Records[1].Headers[0].Key = "x"
	if second, _ := batch.Decode(s); !batch.Same(second, plain()) {
		t.Error("two answers share memory")
	}
}

// P1: all numbers are taken; once something went wrong, nothing is read.
func TestRawArguments(t *testing.T) {
	numbers := []int{math.MinInt, -1 << 31, -1, 0, 1, 1 << 31, math.MaxInt}
	for _, n := range numbers {
		for _, m := range numbers {
			b := api.Batch{Base: n, Leader: m, Last: m, First: n, Max: m, Producer: n, Epoch: m, Sequence: n, Records: []api.Record{{Time: m, Offset: n}}}
			batch.Encode(b)
			b = api.Batch{Base: 5, First: max(n, 0), Max: max(m, 0), Last: 1<<31 - 1, Records: []api.Record{{Time: m}, {Time: n, Offset: 1}}}
			batch.Encode(b)
			b.Append, b.Txn, b.Control = true, true, true
			batch.Encode(b)
		}
	}
	for _, s := range []string{"", strings.Repeat("\x00", 61), strings.Repeat("\xFF", 100), strings.Repeat("\x02", 200)} {
		if b, e := batch.Decode(s); e == api.OK || !batch.Same(b, api.Batch{}) {
			t.Errorf("Decode of %q: %v, %v", s, b, e)
		}
	}
	in := input.New(laid(empty(), said{magic: 2}, ""))
	in.Fail(api.ErrWord)
	if b := batch.Read(in); !batch.Same(b, api.Batch{}) || in.Err() != api.ErrWord || in.At() != 0 {
		t.Error("a batch was read", b, in.Err())
	}
}
