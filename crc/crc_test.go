package crc_test

import (
	"strings"
	"testing"

	"cursitor/crc"
)

// powers are those of the polynomial by which is divided.
var powers = []int{32, 28, 27, 26, 25, 23, 22, 20, 19, 18, 14, 13, 11, 10, 9, 8, 6, 0}

// divided is the sum as P5.1 tells it: bit by bit, by hand.
func divided(s string) uint32 {
	var bits []bool
	for i := range len(s) {
		for b := range 8 {
			bits = append(bits, s[i]>>b&1 == 1)
		}
	}
	bits = append(bits, make([]bool, 32)...)
	for i := range 32 {
		bits[i] = !bits[i]
	}
	for i := 0; i+32 < len(bits); i++ {
		if bits[i] {
			for _, p := range powers {
				bits[i+32-p] = !bits[i+32-p]
			}
		}
	}
	sum := uint32(0)
	for i, b := range bits[len(bits)-32:] {
		if !b {
			sum |= 1 << i
		}
	}
	return sum
}

// some is bytes without a rule to be seen.
func some(n int) string {
	var b strings.Builder
	x := uint32(n)
	for range n {
		x = x*1664525 + 1013904223
		b.WriteByte(byte(x >> 24))
	}
	return b.String()
}

// P5.1
func TestSum(t *testing.T) {
	table := crc.New()
	for _, x := range []struct {
		s    string
		want uint32
	}{
		{"", 0}, {"123456789", 0xE3069283}, {"a", 0xC1D04330}, {"abc", 0x364B3FB7},
		{strings.Repeat("\x00", 32), 0x8A9136AA}, {strings.Repeat("\xFF", 32), 0x62A8AB43},
	} {
		if got := table.Sum(x.s); got != x.want {
			t.Errorf("Sum of %q: %08X", x.s, got)
		}
		if got := divided(x.s); got != x.want {
			t.Errorf("the test's own sum of %q: %08X", x.s, got)
		}
	}
}

// P5.1, P5.2
func TestSumIsTheRemainder(t *testing.T) {
	table := crc.New()
	for c := range 256 {
		s := string([]byte{byte(c)})
		if got, want := table.Sum(s), divided(s); got != want {
			t.Errorf("Sum of %q: %08X, not %08X", s, got, want)
		}
	}
	for n := range 80 {
		s := some(n)
		if got, want := table.Sum(s), divided(s); got != want {
			t.Errorf("Sum of %d bytes: %08X, not %08X", n, got, want)
		}
	}
}

// P5.1
func TestPartsAreOneBehindTheOther(t *testing.T) {
	table := crc.New()
	s := some(50)
	want := divided(s)
	for i := range len(s) + 1 {
		if got := table.Sum(s[:i], s[i:]); got != want {
			t.Errorf("cut at %d: %08X, not %08X", i, got, want)
		}
		if got := table.Sum("", s[:i], "", s[i:i+(50-i)/2], s[i+(50-i)/2:], ""); got != want {
			t.Errorf("in parts, at %d: %08X, not %08X", i, got, want)
		}
	}
	if table.Sum() != 0 || table.Sum("", "") != 0 {
		t.Error("the sum of no bytes isn't 0")
	}
	if table.Sum("a", "b") == table.Sum("b", "a") {
		t.Error("the order of parts is of no matter")
	}
}

// P5.2
func TestMore(t *testing.T) {
	table := crc.New()
	s := some(60)
	for i := range len(s) + 1 {
		if got := table.More(divided(s[:i]), s[i:]); got != divided(s) {
			t.Errorf("More behind %d bytes: %08X", i, got)
		}
	}
	for _, sum := range []uint32{0, 1, 0x80000000, 0xFFFFFFFF, 0xE3069283} {
		if got := table.More(sum, ""); got != sum {
			t.Errorf("More of nothing behind %08X: %08X", sum, got)
		}
	}
}

// P5.2: a Table has a remainder of each byte.
var _ [256]uint32 = crc.Table{}

// P2: Tables are the same, each its own, and nothing is kept of what was summed.
func TestTables(t *testing.T) {
	a, b := crc.New(), crc.New()
	if a == b || *a != *b {
		t.Error("two Tables are one, or not alike")
	}
	kept := *a
	first := a.Sum("abc")
	a.More(5, "def")
	if a.Sum("abc") != first || *a != kept {
		t.Error("a sum hangs on what was summed ahead of it")
	}
}
