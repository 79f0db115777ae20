package split_test

import (
	"slices"
	"strings"
	"testing"

	"cursitor/api"
	"cursitor/frame"
	"cursitor/input"
	"cursitor/produce"
	"cursitor/request"
	"cursitor/split"
	"cursitor/txn"
)

// some is a frame whose number is n; and its bytes.
func some(n int) frame.Frame {
	client := api.Blob{Data: strings.Repeat("x", n%7)}
	return frame.Frame{Head: request.Head{Kind: 26, Number: n, Client: client}, End: txn.End{ID: "a", Producer: n}}
}

func bytesOf(n int) string {
	s, e := frame.Encode(some(n))
	if e != api.OK {
		panic(e)
	}
	return s
}

// big is a frame of just so many bytes behind its size.
func big(size int) string {
	s := "\x00\x16\x00\x00\x00\x00\x00\x00\xFF\xFF"
	return string([]byte{byte(size >> 24), byte(size >> 16), byte(size >> 8), byte(size)}) + s + strings.Repeat("\x00", size-len(s))
}

// told is the frames of bytes, how many bytes they have, and what goes wrong, as P22.1 tells it.
func told(s string) (numbers []int, at int, e api.Errno) {
	for {
		in := input.New(s[at:])
		if in.Left() < 4 {
			return numbers, at, api.OK
		}
		n := in.Int(4)
		if n < 0 || n > 1<<24 {
			return numbers, at, api.ErrLength
		}
		if in.Left() < n {
			return numbers, at, api.OK
		}
		f, e := frame.Decode(s[at : at+4+n])
		if e != api.OK {
			return numbers, at, e
		}
		numbers = append(numbers, f.Number)
		at += 4 + n
	}
}

// feed holds all that a Splitter tells, chunk by chunk, against what is told of all bytes that came.
func feed(t *testing.T, chunks ...string) {
	t.Helper()
	s := split.New()
	came, had := "", 0
	wrong := api.OK
	for i, chunk := range chunks {
		if wrong == api.OK {
			came += chunk
		}
		want, at, e := told(came)
		l, got := s.Feed(chunk)
		var numbers []int
		for _, f := range l {
			numbers = append(numbers, f.Number)
			if f.End.Producer != f.Number || f.Kind != 26 {
				t.Errorf("another frame: %v", f)
			}
		}
		if !slices.Equal(numbers, want[had:]) || got != e {
			t.Errorf("Feed of the %dth of %.60q: %v, %v, not %v, %v", i, chunks, numbers, got, want[had:], e)
		}
		if s.Many() != len(want) || s.At() != at || s.Held() != len(came)-at {
			t.Errorf("behind the %dth of %.60q: Many %d, At %d, Held %d", i, chunks, s.Many(), s.At(), s.Held())
		}
		had, wrong = len(want), e
	}
	if wrong == api.OK && s.Held() != 0 {
		wrong = api.ErrShort
	}
	held := s.Held()
	for range 2 {
		if e := s.Close(); e != wrong || s.Many() != had || s.Held() != held {
			t.Errorf("Close of %.60q: %v, not %v", chunks, e, wrong)
		}
	}
	l, e := s.Feed(bytesOf(1))
	if wrong != api.OK && (len(l) != 0 || e != wrong || s.Many() != had) || wrong == api.OK && (len(l) != 1 || e != api.OK || s.Many() != had+1) {
		t.Errorf("Feed behind Close of %.60q: %v, %v", chunks, l, e)
	}
}

// cuts feeds bytes in chunks of many sizes.
func cuts(t *testing.T, s string) {
	t.Helper()
	feed(t, s)
	feed(t, "", s, "")
	for size := 1; size <= 9; size++ {
		var chunks []string
		for rest := s; rest != ""; {
			n := min(size, len(rest))
			chunks, rest = append(chunks, rest[:n]), rest[n:]
		}
		feed(t, chunks...)
	}
	for i := range len(s) + 1 {
		feed(t, s[:i], s[i:])
		feed(t, s[:i], "", s[i:i+(len(s)-i)/3], s[i+(len(s)-i)/3:])
	}
}

// P22.1, P22.2
func TestFrames(t *testing.T) {
	three := bytesOf(1) + bytesOf(2) + bytesOf(3)
	for _, s := range []string{
		"",
		"\x00",
		"\x00\x00\x00",
		bytesOf(5),
		three,
		three + "\x00\x00\x00",
		three[:len(three)-1],
		three[:len(three)-30],
		three + "\x01\x00\x00\x00" + "abc", // MaxFrame, of which most isn't there
	} {
		cuts(t, s)
	}
	feed(t)
}

// P22.1, P22.2
func TestWrongFrames(t *testing.T) {
	two := bytesOf(1) + bytesOf(2)
	for _, s := range []string{
		"\xFF\xFF\xFF\xFF",
		two + "\xFF\xFF\xFF\xFF" + two,
		two + "\x80\x00\x00\x00",
		two + "\x01\x00\x00\x01" + two, // above MaxFrame
		two + "\x02\x00\x00\x00",
		two + "\x00\x00\x00\x00" + two, // a frame of no bytes
		two + "\x00\x00\x00\x04\x00\x15\x00\x00" + two,
		two + "\x00\x00\x00\x03\x00\x15\x00" + two,
		two + "\x00\x00\x00\x0A\x00\x1A\x00\x01\x00\x00\x00\x00\xFF\xFF" + two,
		two + "\x00\x00\x00\x0B\x00\x1A\x00\x00\x00\x00\x00\x00\xFF\xFFz" + two,
		two + "\x00\x00\x00\x19" + bytesOf(7)[4:] + "z" + two,
	} {
		cuts(t, s)
	}
}

// P22.2: the frames ahead of what goes wrong come by the same chunk.
func TestFramesAheadOfWhatGoesWrong(t *testing.T) {
	s := split.New()
	l, e := s.Feed(bytesOf(1) + bytesOf(2) + "\xFF\xFF\xFF\xFFabc")
	if len(l) != 2 || e != api.ErrLength || s.Many() != 2 || s.At() != len(bytesOf(1)+bytesOf(2)) || s.Held() != 7 {
		t.Error(len(l), e, s.Many(), s.At(), s.Held())
	}
	l, e = s.Feed("more")
	if len(l) != 0 || e != api.ErrLength || s.Held() != 7 || s.Close() != api.ErrLength {
		t.Error("behind it", len(l), e, s.Held())
	}
}

// P22.1: up to MaxFrame; and that bytes that come one by one are not gone through again and again.
func TestGreatFrames(t *testing.T) {
	if split.MaxFrame != 1<<24 {
		t.Error("MaxFrame", split.MaxFrame)
	}
	feed(t, big(1 << 24)[:100], "", "a")
	feed(t, "\x01\x00\x00\x01", "a")
	s := split.New()
	all := big(1 << 22)
	for i := range len(all) {
		l, e := s.Feed(all[i : i+1])
		if want := i == len(all)-1; len(l) != 0 || (e != api.OK) != want {
			t.Fatal("a great frame, byte by byte", i, e)
		}
	}
	s = split.New()
	few := ""
	for n := range 2000 {
		few += bytesOf(n)
	}
	many := 0
	for range 50 {
		l, e := s.Feed(few)
		many += len(l)
		if e != api.OK {
			t.Fatal("many frames", e)
		}
	}
	if many != 100000 || s.Many() != many || s.At() != 50*len(few) || s.Held() != 0 {
		t.Error("many frames", many, s.Many(), s.At(), s.Held())
	}
}

// produced is a frame of just so many bytes behind its size, which are more than 2^22.
func produced(size int) string {
	b := api.Batch{Leader: -1, Producer: -1, Epoch: -1, Sequence: -1}
	f := frame.Frame{Head: request.Head{Version: 3, Client: api.Blob{Null: true}}}
	f.Produce = produce.Request{ID: api.Blob{Null: true}, Topics: []produce.Topic{{Name: "t", Parts: []produce.Part{{Batches: []api.Batch{b}}}}}}
	s := ""
	for n := size - 200; len(s) < 4+size; n += 4 + size - len(s) {
		f.Produce.Topics[0].Parts[0].Batches[0].Records = []api.Record{{Value: api.Blob{Data: strings.Repeat("x", n)}}}
		s, _ = frame.Encode(f)
	}
	return s
}

// P22.1
func TestTheGreatestFrame(t *testing.T) {
	for _, x := range []struct {
		size int
		e    api.Errno
	}{{1<<24 - 1, api.OK}, {1 << 24, api.OK}, {1<<24 + 1, api.ErrLength}} {
		all := produced(x.size)
		if len(all) != 4+x.size {
			t.Fatal("the test's own frame has", len(all))
		}
		s := split.New()
		l, e := s.Feed(all)
		if e != x.e || (len(l) == 1) != (e == api.OK) {
			t.Errorf("a frame of %d bytes: %d, %v", x.size, len(l), e)
		}
		s = split.New()
		s.Feed(all[:len(all)-1])
		if l, e := s.Feed(all[len(all)-1:]); e != x.e || (len(l) == 1) != (e == api.OK) {
			t.Errorf("a frame of %d bytes, cut: %d, %v", x.size, len(l), e)
		}
	}
}

// P2: Splitters are each their own, and what they answer isn't kept.
func TestMemory(t *testing.T) {
	a, b := split.New(), split.New()
	s := bytesOf(1) + bytesOf(2)
	first, _ := a.Feed(s[:40])
	if b.Many() != 0 || b.Held() != 0 || b.At() != 0 || b.Close() != api.OK {
		t.Error("two Splitters hang together")
	}
	first[0] = frame.Frame{}
	second, e := a.Feed(s[40:])
	if len(second) != 1 || second[0].Number != 2 || e != api.OK {
		t.Error("an answer is kept", second, e)
	}
}
