package version_test

import (
	"math"
	"testing"

	"cursitor/api"
	"cursitor/version"
)

// row is a row of P16.1's table.
type row struct {
	kind        int
	name        string
	least, most int
}

func rows() map[int]row {
	return map[int]row{
		0:  {0, "produce", 3, 4},
		22: {22, "begin", 0, 1},
		24: {24, "add", 0, 0},
		26: {26, "end", 0, 0},
		27: {27, "mark", 0, 1},
	}
}

// P16.1
func TestConstants(t *testing.T) {
	if version.Produce != 0 || version.Begin != 22 || version.Add != 24 || version.End != 26 || version.Mark != 27 {
		t.Error("a request's number is another one")
	}
}

// P16.1
func TestRequests(t *testing.T) {
	table := rows()
	kinds := []int{math.MinInt, math.MaxInt, 1 << 32, 1<<32 + 22}
	for kind := -10; kind < 300; kind++ {
		kinds = append(kinds, kind)
	}
	for _, kind := range kinds {
		r, there := table[kind] // the zero row, if it isn't there
		if least, most, ok := version.Range(kind); least != r.least || most != r.most || ok != there {
			t.Errorf("Range(%d): %d, %d, %v", kind, least, most, ok)
		}
		if name := version.Name(kind); name != r.name {
			t.Errorf("Name(%d): %q", kind, name)
		}
		for _, v := range []int{math.MinInt, -1, 0, 1, 2, 3, 4, 5, 65536, math.MaxInt} {
			want := api.OK
			if !there {
				want = api.ErrKind
			} else if v < r.least || v > r.most {
				want = api.ErrVersion
			}
			if e := version.Check(kind, v); e != want {
				t.Errorf("Check(%d, %d): %v, not %v", kind, v, e, want)
			}
		}
	}
}

// P16.1
func TestOf(t *testing.T) {
	for kind, r := range rows() {
		if got, ok := version.Of(r.name); got != kind || !ok {
			t.Errorf("Of %q: %d, %v", r.name, got, ok)
		}
	}
	for _, name := range []string{"", "Produce", "produce ", "prod", "BEGIN", "begins", "22", "\x00"} {
		if got, ok := version.Of(name); got != 0 || ok {
			t.Errorf("Of %q: %d, %v", name, got, ok)
		}
	}
}
