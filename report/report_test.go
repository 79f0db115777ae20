package report_test

import (
	"math"
	"slices"
	"strconv"
	"strings"
	"testing"

	"cursitor/api"
	"cursitor/batch"
	"cursitor/marker"
	"cursitor/report"
	"cursitor/scan"
	"cursitor/script"
)

// plain is a batch of a base and of so many records, of nobody; it has 61 bytes, and 7 a record.
func plain(base, records int) api.Batch {
	b := api.Batch{Base: base, Last: records, Leader: -1, Producer: -1, Epoch: -1, Sequence: -1}
	for i := range records {
		b.Records = append(b.Records, api.Record{Offset: i})
	}
	return b
}

// ending is one of the base 9 that ends a transaction of the producer 5; it has 78 bytes.
func ending(kind, coordinator int) api.Batch {
	b, e := marker.Batch(9, 0, marker.End{Producer: 5, Kind: kind, Coordinator: coordinator})
	if e != api.OK {
		panic(e)
	}
	return b
}

func bytesOf(l ...api.Batch) string {
	s, e := batch.All(l...)
	if e != api.OK {
		panic(e)
	}
	return s
}

// P26.1
func TestChunks(t *testing.T) {
	for _, x := range []struct {
		s     string
		sizes []int
		want  []string
	}{
		{"", nil, []string{""}},
		{"abc", nil, []string{"abc"}},
		{"abcdef", []int{2}, []string{"ab", "cdef"}},
		{"abcdef", []int{1, 2}, []string{"a", "bc", "def"}},
		{"abcdef", []int{0, 2, 0}, []string{"", "ab", "", "cdef"}},
		{"abcdef", []int{-1, 2, math.MinInt}, []string{"", "ab", "", "cdef"}},
		{"abcdef", []int{4, 2}, []string{"abcd", "ef", ""}}, // of which the last one is all that are left: none
		{"abcdef", []int{4, 3, 1}, []string{"abcd", "ef", "", ""}},
		{"abcdef", []int{math.MaxInt, 5}, []string{"abcdef", "", ""}},
		{"", []int{1, -1}, []string{"", "", ""}},
	} {
		sizes := append(make([]int, 0, len(x.sizes)+2), x.sizes...) // with spare room
		if l := report.Chunks(x.s, sizes...); !slices.Equal(l, x.want) {
			t.Errorf("Chunks of %q, %v: %q, not %q", x.s, sizes, l, x.want)
		}
		if !slices.Equal(sizes, x.sizes) || sizes[:len(x.sizes)+1][len(x.sizes)] != 0 {
			t.Errorf("sizes were changed: %v into %v", x.sizes, sizes)
		}
	}
}

// P26.1
func TestLine(t *testing.T) {
	produced := plain(3, 2)
	produced.Txn, produced.Producer, produced.Epoch, produced.Sequence = true, 77, 0, 0
	wrong := ending(1, 5)
	wrong.Max = 1
	for i, x := range []struct {
		b    api.Batch
		want string
	}{
		{plain(0, 0), "batch 0 -1 0 data\n"},
		{plain(12, 3), "batch 12 -1 3 data\n"},
		{produced, "batch 3 77 2 data\n"},
		{ending(0, 0), "batch 9 5 1 abort 0\n"},
		{ending(1, 0), "batch 9 5 1 commit 0\n"},
		{ending(1, 1<<31-1), "batch 9 5 1 commit 2147483647\n"},
		{ending(0, 12), "batch 9 5 1 abort 12\n"},
		{wrong, "batch 9 5 1 data\n"}, // it may not be, and so ends nothing
		{api.Batch{}, "batch 0 0 0 data\n"},
		{api.Batch{Base: math.MinInt, Producer: math.MaxInt, Control: true, Records: make([]api.Record, 3)}, "batch -9223372036854775808 9223372036854775807 3 data\n"},
	} {
		if s := report.Line(x.b); s != x.want {
			t.Errorf("Line of the %dth: %q, not %q", i, s, x.want)
		}
	}
}

// P26.1
func TestEnd(t *testing.T) {
	for _, x := range []struct {
		r    scan.Result
		want string
	}{
		{scan.Result{}, "valid 0 clean\n"},
		{scan.Result{Valid: 61}, "valid 61 clean\n"},
		{scan.Result{Valid: 61, Stop: scan.Torn}, "valid 61 torn\n"},
		{scan.Result{Valid: 120, Stop: scan.Bad, Err: api.ErrSum}, "valid 120 bad 5\n"},
		{scan.Result{Stop: scan.Bad, Err: api.ErrOrder}, "valid 0 bad 13\n"},
		{scan.Result{Valid: -1, Stop: 3}, "valid -1 bad 0\n"},
		{scan.Result{Stop: -1, Err: -7}, "valid 0 bad -7\n"},
		{scan.Result{Stop: scan.Clean, Err: api.ErrSum}, "valid 0 clean\n"},
		{scan.Result{Stop: scan.Torn, Err: api.ErrSum}, "valid 0 torn\n"},
	} {
		if s := report.End(x.r); s != x.want {
			t.Errorf("End of %v: %q, not %q", x.r, s, x.want)
		}
	}
}

// three batches, and what is told of them.
func three() []api.Batch { return []api.Batch{plain(0, 2), ending(1, 3), plain(10, 0)} }

const (
	firstLine  = "batch 0 -1 2 data\n"
	secondLine = "batch 9 5 1 commit 3\n"
	thirdLine  = "batch 10 -1 0 data\n"
)

// P26.2
func TestPlay(t *testing.T) {
	noOrder, noAttr := plain(0, 2), plain(0, 0)
	noOrder.Records[1].Offset = 0
	noAttr.Control = true
	whole := firstLine + secondLine + thirdLine + "total 214 3\nvalid 214 clean\n"
	for i, x := range []struct {
		s    script.Script
		want string
	}{
		{script.Script{Cut: -1}, "total 0 0\nvalid 0 clean\n"},
		{script.Script{}, "total 0 0\nvalid 0 clean\n"},
		{script.Script{Batches: three(), Cut: -1}, whole},
		{script.Script{Batches: three(), Cut: -5}, whole},
		{script.Script{Batches: three(), Cut: 214}, whole},
		{script.Script{Batches: three(), Cut: 215}, whole},
		{script.Script{Batches: three(), Cut: math.MaxInt}, whole},
		{script.Script{Batches: three(), Cut: 213}, firstLine + secondLine + "total 153 3\nvalid 153 torn\n"},
		{script.Script{Batches: three(), Cut: 153}, firstLine + secondLine + "total 153 3\nvalid 153 clean\n"},
		{script.Script{Batches: three(), Cut: 76}, firstLine + "total 75 2\nvalid 75 torn\n"},
		{script.Script{Batches: three(), Cut: 0}, "total 0 0\nvalid 0 clean\n"},
		{script.Script{Batches: three(), Cut: 1}, "total 0 0\nvalid 0 torn\n"},
		{script.Script{Batches: three(), Cut: -1, Chunks: []int{1, -2, 0, 80, 5}}, whole},
		{script.Script{Batches: three(), Cut: -1, Chunks: []int{1000, 1}}, whole},
		{script.Script{Batches: three(), Cut: 76, Chunks: []int{75}}, firstLine + "total 75 2\nvalid 75 torn\n"},
		{script.Script{Batches: []api.Batch{noOrder}, Cut: -1}, "error 0 13\n"},
		{script.Script{Batches: append(three(), noAttr, noOrder), Cut: 0, Chunks: []int{5}}, "error 3 8\n"},
		{script.Script{Batches: append(three(), noOrder, noAttr), Cut: 0}, "error 3 13\n"},
	} {
		if s := report.Play(x.s); s != x.want {
			t.Errorf("Play of the %dth: %q, not %q", i, s, x.want)
		}
	}
}

// P26.3
func TestRun(t *testing.T) {
	for _, x := range []struct{ text, want string }{
		{"", "total 0 0\nvalid 0 clean\n"},
		{"x", "line 1\n"},
		{"cut 5", "line 1\n"},
		{"batch 0 -1 0 0 0 -1 -1 -1 -\nrecord 0 0 none none\nrecord 0\n", "line 3\n"},
		{"batch 0 -1 0 0 0 -1 -1 -1 -\n", "batch 0 -1 0 data\ntotal 61 0\nvalid 61 clean\n"},
		{"batch 0 -1 0 0 0 -1 -1 -1 -\nrecord 0 0 none none\ncut 67\nchunks 3 4\n", "total 0 0\nvalid 0 torn\n"},
		{"batch 7 -1 5 0 0 -1 -1 -1 a\nrecord 0 5 61 none\nheader 62 -\n", "batch 7 -1 1 data\ntotal 72 1\nvalid 72 clean\n"},
		{"batch 0 -1 0 0 0 -1 -1 -1 -\nbatch 0 -1 0 0 0 -1 -1 -1 t\n", "error 1 11\n"},
		{"batch 9 0 0 8 8 5 0 -1 tc\nrecord 0 0 00000001 000000000002\n", "batch 9 5 1 commit 2\ntotal 78 1\nvalid 78 clean\n"},
		{"batch 9 0 0 8 8 5 0 -1 tc\nrecord 0 0 00000000 000000000002\n", "batch 9 5 1 abort 2\ntotal 78 1\nvalid 78 clean\n"},
		{"batch 9 0 0 8 8 5 0 -1 tc\nrecord 0 0 00000002 000000000002\n", "error 0 12\n"},
	} {
		if s := report.Run(x.text); s != x.want {
			t.Errorf("Run of %q: %q, not %q", x.text, s, x.want)
		}
	}
	s := script.Script{Batches: three(), Cut: 80, Chunks: []int{7, 7}}
	if got := report.Run(script.Print(s)); got != report.Play(s) {
		t.Errorf("Run of a Print: %q", got)
	}
}

// P26.3
func TestRaw(t *testing.T) {
	s := bytesOf(three()...)
	lost := s[:70] + "!" + s[71:]
	whole := firstLine + secondLine + thirdLine + "total 214 3\nvalid 214 clean\n"
	for i, x := range []struct {
		word  string
		sizes []int
		want  string
	}{
		{"", nil, "none\n"},
		{"0", nil, "none\n"},
		{"none", []int{1}, "none\n"},
		{"ZZ", nil, "none\n"},
		{"-", nil, "total 0 0\nvalid 0 clean\n"},
		{"-", []int{1, 2}, "total 0 0\nvalid 0 clean\n"},
		{"00", nil, "total 0 0\nvalid 0 torn\n"},
		{script.Hex(s), nil, whole},
		{script.Hex(s), []int{1, 100, -1, 3, 500}, whole},
		{script.Hex(s[:153]), []int{152}, firstLine + secondLine + "total 153 3\nvalid 153 clean\n"},
		{script.Hex(s[:100]), []int{50}, firstLine + "total 75 2\nvalid 75 torn\n"},
		{script.Hex(lost), []int{50}, "total 0 0\nvalid 0 bad 5\n"},
		{script.Hex(s + lost), []int{50}, firstLine + secondLine + thirdLine + "total 214 3\nvalid 214 bad 5\n"},
		{script.Hex(strings.Repeat("\x00", 61)), nil, "total 0 0\nvalid 0 bad 6\n"},
	} {
		if got := report.Raw(x.word, x.sizes...); got != x.want {
			t.Errorf("Raw of the %dth: %q, not %q", i, got, x.want)
		}
	}
}

// P26.2: what is told doesn't hang on the chunks.
func TestChunksAreOfNoMatter(t *testing.T) {
	s := bytesOf(three()...) + bytesOf(ending(0, 0))[:70]
	word := script.Hex(s)
	want := report.Raw(word)
	for size := range len(s) + 2 {
		if got := report.Raw(word, size, size/2, 5); got != want {
			t.Errorf("in chunks of %d: %q, not %q", size, got, want)
		}
	}
	if !strings.HasSuffix(want, "valid "+strconv.Itoa(len(bytesOf(three()...)))+" torn\n") {
		t.Errorf("%q", want)
	}
}

// P2: what is handed in isn't changed, and nothing is kept.
func TestMemory(t *testing.T) {
	s := script.Script{Batches: three(), Cut: 100, Chunks: []int{5, 6}}
	first := report.Play(s)
	if report.Play(s) != first || !slices.EqualFunc(s.Batches, three(), batch.Same) || !slices.Equal(s.Chunks, []int{5, 6}) || s.Cut != 100 {
		t.Error("a Script was changed", s)
	}
	l := report.Chunks("abc", 1)
	l[0] = "x"
	if again := report.Chunks("abc", 1); again[0] != "a" {
		t.Error("two answers share memory")
	}
}
