package scan_test

import (
	"slices"
	"strings"
	"testing"

	"cursitor/api"
	"cursitor/batch"
	"cursitor/input"
	"cursitor/marker"
	"cursitor/prefix"
	"cursitor/scan"
)

// plain is a batch of a base and of so many records, of nobody.
func plain(base, records int) api.Batch {
	b := api.Batch{Base: base, Last: records, Leader: -1, Producer: -1, Epoch: -1, Sequence: -1}
	for i := range records {
		b.Records = append(b.Records, api.Record{Offset: i, Value: api.Blob{Data: strings.Repeat("v", i)}})
	}
	return b
}

func ending(base int) api.Batch {
	b, _ := marker.Batch(base, 0, marker.End{Producer: 5, Kind: 1})
	return b
}

func bytesOf(l ...api.Batch) string {
	s, e := batch.All(l...)
	if e != api.OK {
		panic(e)
	}
	return s
}

// told is the batches of bytes, and what comes of them, as P23.1 tells it.
func told(s string) ([]api.Batch, scan.Result) {
	var l []api.Batch
	at := 0
	for {
		left := s[at:]
		if left == "" {
			return l, scan.Result{Valid: at, Stop: 0}
		}
		if len(left) < 61 {
			return l, scan.Result{Valid: at, Stop: 1}
		}
		in := input.New(left[:61])
		if p := prefix.Read(in); in.Err() == api.OK && len(left) < p.Length+12 {
			return l, scan.Result{Valid: at, Stop: 1}
		}
		in = input.New(left)
		b := batch.Read(in)
		if e := in.Err(); e != api.OK {
			return l, scan.Result{Valid: at, Stop: 2, Err: e}
		}
		l = append(l, b)
		at += in.At()
	}
}

func same(a, b []api.Batch) bool { return slices.EqualFunc(a, b, batch.Same) }

// feed holds all that a Scanner tells, chunk by chunk, against what is told of all bytes that came.
func feed(t *testing.T, chunks ...string) {
	t.Helper()
	s := scan.New()
	came, had := "", 0
	for i, chunk := range chunks {
		came += chunk
		want, result := told(came)
		if l := s.Feed(chunk); !same(l, want[had:]) {
			t.Errorf("Feed of the %dth of %.60q: %d batches, not %d", i, chunks, len(l), len(want)-had)
		}
		for range 2 { // that it is asked changes nothing
			if r := s.Close(); r != result {
				t.Errorf("Close behind the %dth of %.60q: %v, not %v", i, chunks, r, result)
			}
		}
		had = len(want)
	}
	want, result := told(came)
	if l, r := scan.Scan(chunks...); !same(l, want) || r != result {
		t.Errorf("Scan of %.60q: %d batches, %v, not %d, %v", chunks, len(l), r, len(want), result)
	}
	if l, r := scan.Scan(came[:result.Valid]); !same(l, want) || r != (scan.Result{Valid: result.Valid}) {
		t.Errorf("Scan of what is valid: %d batches, %v", len(l), r)
	}
}

// cuts feeds bytes in chunks of many sizes.
func cuts(t *testing.T, s string) {
	t.Helper()
	feed(t, s)
	feed(t, "", s, "")
	for _, size := range []int{1, 2, 3, 7, 60, 61, 62, 73, 100} {
		var chunks []string
		for rest := s; rest != ""; {
			n := min(size, len(rest))
			chunks, rest = append(chunks, rest[:n]), rest[n:]
		}
		feed(t, chunks...)
	}
	for i := 0; i <= len(s); i += 5 {
		feed(t, s[:i], s[i:])
		feed(t, s[:i], "", s[i:i+(len(s)-i)/3], s[i+(len(s)-i)/3:])
	}
}

// P23.1
func TestConstants(t *testing.T) {
	if scan.Clean != 0 || scan.Torn != 1 || scan.Bad != 2 {
		t.Error("a constant is another one")
	}
}

// P23.1, P23.2
func TestCleanAndTorn(t *testing.T) {
	all := []api.Batch{plain(0, 0), plain(5, 3), ending(9), plain(9, 1)}
	s := bytesOf(all...)
	cuts(t, "")
	cuts(t, s)
	ends := map[int]int{0: 0}
	for i := range all {
		ends[len(bytesOf(all[:i+1]...))] = i + 1
	}
	valid := 0
	for n := range len(s) + 1 {
		want := scan.Result{Stop: scan.Torn}
		if _, ok := ends[n]; ok {
			valid, want.Stop = n, scan.Clean
		}
		want.Valid = valid
		if l, r := scan.Scan(s[:n]); r != want || !same(l, all[:ends[valid]]) {
			t.Errorf("the first %d bytes: %d batches, %v", n, len(l), r)
		}
	}
	if l, r := scan.Scan(); len(l) != 0 || r != (scan.Result{}) {
		t.Error("Scan of nothing", l, r)
	}
}

// P23.1, P23.2
func TestBad(t *testing.T) {
	good := bytesOf(plain(0, 2))
	next := bytesOf(plain(7, 1))
	with := func(at int, c string) string { return next[:at] + c + next[at+len(c):] }
	for i, x := range []struct {
		s string
		r scan.Result // without Valid
	}{
		{with(16, "\x01"), scan.Result{Stop: scan.Bad, Err: api.ErrMagic}},
		{with(16, "\x01")[:61], scan.Result{Stop: scan.Bad, Err: api.ErrMagic}},
		{with(16, "\x01")[:60], scan.Result{Stop: scan.Torn}}, // with less than 61 bytes nothing is asked
		{with(8, "\x00\x00\x00\x30"), scan.Result{Stop: scan.Bad, Err: api.ErrLength}},
		{with(8, "\xFF\xFF\xFF\xFF")[:61], scan.Result{Stop: scan.Bad, Err: api.ErrLength}},
		{with(57, "\xFF\xFF\xFF\xFF")[:61], scan.Result{Stop: scan.Bad, Err: api.ErrCount}},
		{with(8, "\x7F\xFF\xFF\xFF"), scan.Result{Stop: scan.Torn}},
		{with(8, "\x00\x00\x00\x31"), scan.Result{Stop: scan.Bad, Err: api.ErrSum}},
		{with(20, "\x00"), scan.Result{Stop: scan.Bad, Err: api.ErrSum}},
		{with(20, "\x00")[:len(next)-1], scan.Result{Stop: scan.Torn}}, // as long as it isn't whole
		{with(0, "\xFF"), scan.Result{Stop: scan.Bad, Err: api.ErrRange}},
		{with(12, "\x80"), scan.Result{Stop: scan.Bad, Err: api.ErrRange}},
	} {
		for ahead := range 3 {
			s := strings.Repeat(good, ahead) + x.s
			want := x.r
			want.Valid = ahead * len(good)
			if l, r := scan.Scan(s); r != want || len(l) != ahead {
				t.Errorf("the %dth behind %d: %d batches, %v, not %v", i, ahead, len(l), r, want)
			}
			if want.Stop == scan.Bad { // and then nothing is told of what is behind it
				if l, r := scan.Scan(s, good, good); r != want || len(l) != ahead {
					t.Errorf("the %dth behind %d, and more: %d batches, %v, not %v", i, ahead, len(l), r, want)
				}
			}
			if ahead == 1 {
				cuts(t, s+good)
			}
		}
	}
}

// P23.1: each byte, changed.
func TestEachByteChanged(t *testing.T) {
	s := bytesOf(plain(0, 1), ending(3), plain(7, 2))
	for i := range len(s) {
		for _, c := range []byte{1, 0x80} {
			changed := []byte(s)
			changed[i] ^= c
			feed(t, string(changed))
			feed(t, string(changed[:i]), string(changed[i:]))
		}
	}
}

// P23.2: bytes that come one by one aren't gone through again and again.
func TestGreatBatches(t *testing.T) {
	b := plain(0, 0)
	b.Records = []api.Record{{Value: api.Blob{Data: strings.Repeat("x", 1<<22)}}}
	all := bytesOf(b)
	s := scan.New()
	for i := range len(all) {
		if l := s.Feed(all[i : i+1]); len(l) != 0 && i != len(all)-1 {
			t.Fatal("a great batch, byte by byte", i)
		}
	}
	if r := s.Close(); r != (scan.Result{Valid: len(all)}) {
		t.Error("a great batch, byte by byte", r)
	}
	few := strings.Repeat(bytesOf(plain(0, 1)), 2000)
	s = scan.New()
	many := 0
	for range 20 {
		many += len(s.Feed(few))
	}
	if r := s.Close(); many != 40000 || r != (scan.Result{Valid: 20 * len(few)}) {
		t.Error("many batches", many, r)
	}
}

// P2: Scanners are each their own, and what they answer isn't kept.
func TestMemory(t *testing.T) {
	all := bytesOf(plain(0, 2), plain(5, 1))
	a, b := scan.New(), scan.New()
	first := a.Feed(all)
	if b.Close() != (scan.Result{}) {
		t.Error("two Scanners hang together")
	}
	first[0].Records[0].Offset = 77
	a.Feed(all)
	if first[0].Records[0].Offset != 77 || first[1].Base != 5 || first[0].Records[1].Value.Data != "v" {
		t.Error("an answer was changed")
	}
	if second := b.Feed(all); !batch.Same(second[0], plain(0, 2)) {
		t.Error("two answers share memory")
	}
	chunks := []string{all[:70], all[70:], "", ""}[:2]
	scan.Scan(chunks...)
	if chunks[0] != all[:70] || chunks[1] != all[70:] || chunks[:3][2] != "" {
		t.Error("chunks were changed")
	}
}
