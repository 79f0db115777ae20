package script_test

import (
	"math"
	"slices"
	"strconv"
	"strings"
	"testing"

	"cursitor/api"
	"cursitor/batch"
	"cursitor/script"
)

var none = api.Blob{Null: true}

func of(s string) api.Blob { return api.Blob{Data: s} }

func same(a, b script.Script) bool {
	return slices.EqualFunc(a.Batches, b.Batches, batch.Same) && a.Cut == b.Cut && slices.Equal(a.Chunks, b.Chunks)
}

// P25.1
func TestHexAndBytes(t *testing.T) {
	all, hex := "", ""
	for c := range 256 {
		one := string([]byte{byte(c)})
		want := strconv.FormatInt(int64(c+256), 16)[1:]
		if w := script.Hex(one); w != want {
			t.Errorf("Hex of %q: %q", one, w)
		}
		if s, ok := script.Bytes(want); s != one || !ok {
			t.Errorf("Bytes of %q: %q, %v", want, s, ok)
		}
		all, hex = all+one, hex+want
	}
	for _, x := range []struct{ s, w string }{{"", "-"}, {"\x00", "00"}, {"\xAB\x09", "ab09"}, {"abc", "616263"}, {all, hex}} {
		if w := script.Hex(x.s); w != x.w {
			t.Errorf("Hex of %q: %q", x.s, w)
		}
		if s, ok := script.Bytes(x.w); s != x.s || !ok {
			t.Errorf("Bytes of %q: %q, %v", x.w, s, ok)
		}
	}
	for _, w := range []string{"", "a", "abc", "AB", "aB", "Ab", "0g", "g0", "--", "-0", "0-", "- ", " -", "none", "0x", "0x00", "00 ", " 00", "00\n", "0/", "0:", "`0", "\x00\x00", "é", "00000"} {
		if s, ok := script.Bytes(w); s != "" || ok {
			t.Errorf("Bytes of %q: %q, %v", w, s, ok)
		}
	}
}

// row is a Script, and its Print.
type row struct {
	s    script.Script
	text string
}

func rows() []row {
	nobody := api.Batch{Leader: -1, Producer: -1, Epoch: -1, Sequence: -1}
	full := api.Batch{
		Base: 1, Leader: 2, Last: 3, First: 4, Max: 5, Producer: 6, Epoch: 7, Sequence: 8, Append: true, Txn: true, Control: true,
		Records: []api.Record{
			{Key: none, Value: none},
			{Time: -5, Offset: 6, Key: of("a"), Value: of(""), Headers: []api.Header{{Key: "h", Value: none}, {Value: of("\xFF")}, {Key: "\x00i"}}},
			{Time: math.MinInt, Offset: math.MaxInt, Key: of("\x00"), Value: of("none")},
		},
	}
	fullText := "batch 1 2 3 4 5 6 7 8 atc\nrecord 0 0 none none\nrecord -5 6 61 -\nheader 68 none\nheader - ff\nheader 0069 -\nrecord -9223372036854775808 9223372036854775807 00 6e6f6e65\n"
	// It may not be, but is told.
	wrong := api.Batch{Base: math.MinInt, Leader: -7, Last: math.MaxInt, Control: true}
	return []row{
		{script.Script{Cut: -1}, ""},
		{script.Script{}, "cut 0\n"},
		{script.Script{Cut: 120}, "cut 120\n"},
		{script.Script{Cut: math.MaxInt, Chunks: []int{0}}, "cut 9223372036854775807\nchunks 0\n"},
		{script.Script{Cut: -1, Chunks: []int{5, -1, 0, math.MinInt, math.MaxInt}}, "chunks 5 -1 0 -9223372036854775808 9223372036854775807\n"},
		{script.Script{Batches: []api.Batch{nobody}, Cut: -1}, "batch 0 -1 0 0 0 -1 -1 -1 -\n"},
		{script.Script{Batches: []api.Batch{full}, Cut: -1}, fullText},
		{script.Script{Batches: []api.Batch{nobody, full, wrong, full, nobody}, Cut: 3, Chunks: []int{1, 2}}, "batch 0 -1 0 0 0 -1 -1 -1 -\n" + fullText + "batch -9223372036854775808 -7 9223372036854775807 0 0 0 0 0 c\n" + fullText + "batch 0 -1 0 0 0 -1 -1 -1 -\ncut 3\nchunks 1 2\n"},
	}
}

// P25.2, P25.3
func TestPrintAndParse(t *testing.T) {
	for i, x := range rows() {
		if text := script.Print(x.s); text != x.text {
			t.Errorf("Print of the %dth: %q, not %q", i, text, x.text)
		}
		if s, n := script.Parse(x.text); !same(s, x.s) || n != 0 {
			t.Errorf("Parse of %q: %v, %d", x.text, s, n)
		}
	}
	for i, letters := range []string{"-", "a", "t", "at", "c", "ac", "tc", "atc"} {
		s := script.Script{Batches: []api.Batch{{Append: i&1 != 0, Txn: i&2 != 0, Control: i&4 != 0}}, Cut: -1}
		text := "batch 0 0 0 0 0 0 0 0 " + letters + "\n"
		if got := script.Print(s); got != text {
			t.Errorf("Print of %v: %q", s, got)
		}
		if got, n := script.Parse(text); !same(got, s) || n != 0 {
			t.Errorf("Parse of %q: %v, %d", text, got, n)
		}
	}
}

// P25.3: what isn't ended is the last line, whatever is in it.
func TestLinesThatAreNotEnded(t *testing.T) {
	for i, x := range rows() {
		lines := 0
		for n := range len(x.text) {
			if n > 0 && x.text[n-1] == '\n' {
				lines++
			}
			s, wrong := script.Parse(x.text[:n])
			ended := n == 0 || x.text[n-1] == '\n'
			if ended && wrong != 0 || !ended && (wrong != lines+1 || !same(s, script.Script{})) {
				t.Errorf("Parse of %d bytes of the %dth: %v, %d", n, i, s, wrong)
			}
		}
	}
}

const (
	batchLine  = "batch 0 -1 0 0 0 -1 -1 -1 -\n"
	recordLine = "record 0 0 none none\n"
	headerLine = "header 61 none\n"
)

// P25.3: lines that are none, wherever they stand.
func TestWrongLines(t *testing.T) {
	for _, line := range []string{
		"", " ", "\r", "batch", "batch ", "Batch 0 -1 0 0 0 -1 -1 -1 -", " batch 0 -1 0 0 0 -1 -1 -1 -", "batches 0 -1 0 0 0 -1 -1 -1 -",
		"batch 0 -1 0 0 0 -1 -1 -", "batch 0 -1 0 0 0 -1 -1 -1", "batch 0 -1 0 0 0 -1 -1 -1 0", "batch 0 -1 0 0 0 -1 -1 -1 0 -", "batch 0 -1 0 0 0 -1 -1 -1 - ", "batch 0 -1 0 0 0 -1 -1 -1 - -", "batch 0 -1 0 0 0 -1 -1 -1  -",
		"batch 0  -1 0 0 0 -1 -1 -1 -", "batch 0\t-1 0 0 0 -1 -1 -1 -", "batch 0 -1 0 0 0 -1 -1 -1 -\r", "batch 0 -1 0 0 0 -1 -1 -1 ",
		"batch 00 -1 0 0 0 -1 -1 -1 -", "batch 0 -01 0 0 0 -1 -1 -1 -", "batch -0 -1 0 0 0 -1 -1 -1 -", "batch +1 -1 0 0 0 -1 -1 -1 -", "batch 0 - 0 0 0 -1 -1 -1 -", "batch x -1 0 0 0 -1 -1 -1 -", "batch 1_0 -1 0 0 0 -1 -1 -1 -", "batch 0x1 -1 0 0 0 -1 -1 -1 -", "batch 1.0 -1 0 0 0 -1 -1 -1 -", "batch --1 -1 0 0 0 -1 -1 -1 -",
		"batch 9223372036854775808 -1 0 0 0 -1 -1 -1 -", "batch 0 -9223372036854775809 0 0 0 -1 -1 -1 -", "batch 0 -1 0 0 0 -1 -1 99999999999999999999 -",
		"batch 0 -1 0 0 0 -1 -1 -1 ca", "batch 0 -1 0 0 0 -1 -1 -1 ta", "batch 0 -1 0 0 0 -1 -1 -1 aa", "batch 0 -1 0 0 0 -1 -1 -1 a-", "batch 0 -1 0 0 0 -1 -1 -1 x", "batch 0 -1 0 0 0 -1 -1 -1 A", "batch 0 -1 0 0 0 -1 -1 -1 a t", "batch 0 -1 0 0 0 -1 -1 -1 atcc", "batch 0 -1 0 0 0 -1 -1 -1 cta",
		"record", "record 0 0 none", "record 0 0 none none none", "record 0 0 none none ", "record 0 none none 0", "record 0 00 none none", "record -0 0 none none", "record 0 9223372036854775808 none none",
		"record 0 0 NONE none", "record 0 0 none nones", "record 0 0 0 none", "record 0 0 none AB", "record 0 0 -- none", "record 0 0  none none", "record 0 0 none -0", "Record 0 0 none none",
		"header", "header 61", "header none 61", "header 6 none", "header 61 6", "header 61 none none", "header 61 61 ", "header - NONE", "header  none",
		"cut", "cut ", "cut -1", "cut -2", "cut 01", "cut +1", "cut 1 2", "cut 9223372036854775808", "cut x", "cut 1 ",
		"chunks", "chunks ", "chunks x", "chunks 1 ", "chunks 1  2", "chunks 01", "chunks -0", "chunks 1 9223372036854775808", "chunk 1", "none", "-",
	} {
		for i, ahead := range []string{"", batchLine, batchLine + recordLine, batchLine + recordLine + headerLine, batchLine + recordLine + batchLine} {
			lines := strings.Count(ahead, "\n")
			for _, behind := range []string{"\n", "\n" + batchLine, "\nx\n", ""} {
				if s, n := script.Parse(ahead + line + behind); (line != "" || behind != "") && (n != lines+1 || !same(s, script.Script{})) {
					t.Errorf("Parse of %q behind %d: %v, %d, not %d", line+behind, i, s, n, lines+1)
				}
			}
		}
	}
}

// P25.3: lines that stand where they can't.
func TestLinesAtWrongPlaces(t *testing.T) {
	for _, x := range []struct {
		text string
		want int
	}{
		{recordLine, 1},
		{headerLine, 1},
		{batchLine + headerLine, 2},
		{batchLine + recordLine + batchLine + headerLine, 4},
		{batchLine + recordLine + headerLine + headerLine + recordLine + recordLine + headerLine + batchLine + batchLine + recordLine, 0},
		{"cut 0\ncut 0\n", 2},
		{"cut 0\n" + batchLine, 2},
		{batchLine + "cut 5\n" + batchLine, 3},
		{batchLine + "cut 5\n" + recordLine, 3},
		{batchLine + recordLine + "cut 5\n" + headerLine, 4},
		{batchLine + recordLine + "cut 5\nchunks 1\n", 0},
		{"chunks 1\nchunks 1\n", 2},
		{"chunks 1\ncut 5\n", 2},
		{"cut 5\nchunks 1\ncut 5\n", 3},
		{"chunks 1\n" + batchLine, 2},
		{batchLine + "chunks 1\n" + recordLine, 3},
		{batchLine + recordLine + "chunks 1\n" + headerLine, 4},
		{batchLine + "chunks 1\n\n", 3},
		{batchLine + "\n", 2},
		{"\n", 1},
		{"\n\n" + batchLine, 1},
		{batchLine + "x\ny\n", 2},
		{batchLine + "cut 5\nx", 3},
		{batchLine + recordLine + "chunks 1 2\n\x00", 4},
	} {
		if s, n := script.Parse(x.text); n != x.want || n != 0 && !same(s, script.Script{}) {
			t.Errorf("Parse of %q: %v, %d, not %d", x.text, s, n, x.want)
		}
	}
}

// P25.3: a text that is changed anywhere is the Print of what Parse answers, or the lines ahead of the wrong one are.
func TestChangedTexts(t *testing.T) {
	text := batchLine + recordLine + headerLine + "record -5 6 61 -\ncut 10\nchunks 1 -2\n"
	check := func(text string) {
		s, n := script.Parse(text)
		if n == 0 {
			if script.Print(s) != text {
				t.Errorf("Parse of %q: %v, whose Print is another one", text, s)
			}
			return
		}
		lines := strings.SplitAfter(text, "\n")
		if _, ahead := script.Parse(strings.Join(lines[:n-1], "")); ahead != 0 {
			t.Errorf("Parse of %q: %d, but it is %d that is wrong", text, n, ahead)
		}
		if _, with := script.Parse(strings.Join(lines[:n], "")); with != n {
			t.Errorf("Parse of %q: %d, but its first lines alone %d", text, n, with)
		}
	}
	for i := range len(text) {
		check(text[:i] + text[i+1:])
		for _, c := range []string{" ", "\n", "0", "1", "-", "a", "n", "9", "x"} {
			check(text[:i] + c + text[i:])
			check(text[:i] + c + text[i+1:])
		}
	}
}

// P1, P2: whatever is told, calls end; what is handed in isn't changed, what is answered is new memory.
func TestMemory(t *testing.T) {
	script.Print(script.Script{Cut: math.MinInt, Batches: []api.Batch{{Records: []api.Record{{Key: api.Blob{Null: true, Data: "x"}}}}}})
	for i, x := range rows() {
		script.Print(x.s)
		if !same(x.s, rows()[i].s) {
			t.Error("a Script was changed", i)
		}
		first, _ := script.Parse(x.text)
		for j := range first.Batches {
			for k := range first.Batches[j].Records {
				first.Batches[j].Records[k] = api.Record{}
			}
			first.Batches[j] = api.Batch{}
		}
		for j := range first.Chunks {
			first.Chunks[j] = 77
		}
		if second, _ := script.Parse(x.text); !same(second, x.s) {
			t.Error("two answers share memory", i)
		}
	}
	chunks := []int{1, 2, 3}[:2]
	script.Print(script.Script{Chunks: chunks})
	if !slices.Equal(chunks[:3], []int{1, 2, 3}) {
		t.Error("Chunks were changed", chunks)
	}
}
