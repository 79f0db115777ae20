package journal_test

import (
	"slices"
	"strings"
	"testing"

	"cursitor/api"
	"cursitor/blob"
	"cursitor/journal"
	"cursitor/key"
	"cursitor/value"
)

var tooLong = strings.Repeat("x", 32768)

// state is a value that hangs on a number.
func state(n int) api.Value {
	if n == 0 {
		return api.Value{Started: -1}
	}
	return api.Value{Producer: n, State: value.Ongoing, Topics: []api.Topic{{Name: "a", Parts: []int{n, n + 1}}, {Name: "b", Parts: []int{0}}}, Started: n}
}

func wrongState() api.Value { v := state(1); v.State = 9; return v }

// put is the entry of a state; drop is the one by which nothing is known.
func put(id string, n int) journal.Entry {
	x, _ := journal.Put(id, state(n))
	return x
}

func drop(id string) journal.Entry {
	x, _ := journal.Drop(id)
	return x
}

// P15.1
func TestPutAndDrop(t *testing.T) {
	for n := range 3 {
		x, e := journal.Put("ab", state(n))
		k, _ := key.Encode("ab")
		s, _ := value.Encode(state(n))
		if x != (journal.Entry{Key: k, Value: blob.Of(s)}) || e != api.OK || s == "" {
			t.Errorf("Put of %d: %v, %v", n, x, e)
		}
	}
	if x, e := journal.Drop("ab"); x != (journal.Entry{Key: "\x00\x00\x00\x02ab", Value: blob.None()}) || e != api.OK {
		t.Errorf("Drop: %v, %v", x, e)
	}
	for _, x := range []struct {
		id string
		v  api.Value
		e  api.Errno
	}{
		{"", state(1), api.ErrLength},
		{tooLong, state(1), api.ErrLength},
		{"", wrongState(), api.ErrLength}, // the key's error is the first one
		{"a", wrongState(), api.ErrKind},
		{"a", api.Value{}, api.ErrCount},
		{"a", api.Value{Epoch: -1}, api.ErrRange},
	} {
		if y, e := journal.Put(x.id, x.v); y != (journal.Entry{}) || e != x.e {
			t.Errorf("Put of %.20q, %v: %v, %v, not %v", x.id, x.v, y, e, x.e)
		}
	}
	for _, id := range []string{"", tooLong} {
		if x, e := journal.Drop(id); x != (journal.Entry{}) || e != api.ErrLength {
			t.Errorf("Drop of %.20q: %v, %v", id, x, e)
		}
	}
}

// known holds all that a Journal tells against what is to be known: of each name the number of its state.
func known(t *testing.T, j *journal.Journal, want map[string]int, many int) {
	t.Helper()
	var ids []string
	for id, n := range want {
		ids = append(ids, id)
		if v, ok := j.Get(id); !ok || !value.Same(v, state(n)) {
			t.Errorf("Get of %q: %v, %v", id, v, ok)
		}
	}
	slices.Sort(ids)
	if got := j.IDs(); !slices.Equal(got, ids) {
		t.Errorf("IDs: %q, not %q", got, ids)
	}
	var entries []journal.Entry
	for _, id := range ids {
		entries = append(entries, put(id, want[id]))
	}
	if got := j.Compact(); !slices.Equal(got, entries) {
		t.Errorf("Compact: %v, not %v", got, entries)
	}
	if j.Many() != many {
		t.Errorf("Many: %d, not %d", j.Many(), many)
	}
	for _, id := range []string{"", "nobody", tooLong, "\x00\x00\x00\x01a"} {
		if v, ok := j.Get(id); ok || !value.Same(v, api.Value{}) {
			t.Errorf("Get of %.20q: %v, %v", id, v, ok)
		}
	}
}

// P15.2, P15.3
func TestApply(t *testing.T) {
	j := journal.New()
	want := map[string]int{}
	known(t, j, want, 0)
	for i, x := range []struct {
		id   string
		n    int
		drop bool
	}{
		{"b", 1, false}, {"a", 2, false}, {"B", 0, false}, {"\xFF", 3, false}, {"ab", 4, false},
		{"a", 5, false}, {"a", 5, false}, // another value, and the same
		{"a", 0, true}, {"a", 0, true}, {"never", 0, true}, // of nothing nothing is dropped, but counted
		{"a", 6, false}, {"\x00", 7, false}, {"b", 0, true}, {"B", 8, false},
	} {
		entry := put(x.id, x.n)
		want[x.id] = x.n
		if x.drop {
			entry = drop(x.id)
			delete(want, x.id)
		}
		if e := j.Apply(entry); e != api.OK {
			t.Errorf("Apply of the %dth: %v", i, e)
		}
		known(t, j, want, i+1)
	}
	// Who Applies what Compact answers knows the same.
	again := journal.New()
	for _, x := range j.Compact() {
		again.Apply(x)
	}
	known(t, again, want, len(want))
}

// P15.2
func TestApplyOfWrongOnes(t *testing.T) {
	j := journal.New()
	want := map[string]int{"a": 1, "b": 0}
	j.Apply(put("a", 1))
	j.Apply(put("b", 0))
	good := put("a", 2)
	wrong := api.Blob{Null: true, Data: good.Value.Data}
	for i, x := range []struct {
		entry journal.Entry
		e     api.Errno
	}{
		{journal.Entry{}, api.ErrShort},
		{journal.Entry{Key: "\x00\x01\x00\x01a", Value: good.Value}, api.ErrVersion},
		{journal.Entry{Key: "\x00\x00\x00\x00", Value: good.Value}, api.ErrLength},
		{journal.Entry{Key: good.Key + "z", Value: good.Value}, api.ErrLong},
		{journal.Entry{Key: good.Key + "z", Value: blob.None()}, api.ErrLong},
		{journal.Entry{Key: good.Key + "z", Value: wrong}, api.ErrLong},
		{journal.Entry{Key: good.Key, Value: wrong}, api.ErrLength},
		{journal.Entry{Key: good.Key, Value: api.Blob{Null: true, Data: "x"}}, api.ErrLength},
		{journal.Entry{Key: good.Key, Value: blob.Of("")}, api.ErrShort},
		{journal.Entry{Key: good.Key, Value: blob.Of("\x00\x01" + good.Value.Data[2:])}, api.ErrVersion},
		{journal.Entry{Key: good.Key, Value: blob.Of(good.Value.Data + "z")}, api.ErrLong},
		{journal.Entry{Key: good.Key, Value: blob.Of(good.Value.Data[:16] + "\x07" + good.Value.Data[17:])}, api.ErrKind},
		{journal.Entry{Key: good.Key, Value: blob.Of(good.Value.Data[:16] + "\x00" + good.Value.Data[17:])}, api.ErrCount},
	} {
		if e := j.Apply(x.entry); e != x.e {
			t.Errorf("Apply of the %dth: %v, not %v", i, e, x.e)
		}
		known(t, j, want, 2)
	}
}

// P2: what is answered is new memory, what is handed in isn't kept, and Journals are each their own.
func TestMemory(t *testing.T) {
	j, other := journal.New(), journal.New()
	v := state(1)
	x, _ := journal.Put("a", v)
	v.Topics[0].Parts[0] = 77
	j.Apply(x)
	j.Apply(put("b", 2))
	want := map[string]int{"a": 1, "b": 2}
	known(t, j, want, 2)
	known(t, other, map[string]int{}, 0)
	got, _ := j.Get("a")
	got.Topics[0].Parts[0] = 77
	got.Topics[1] = api.Topic{}
	ids, entries := j.IDs(), j.Compact()
	ids[0], ids[1] = "x", "y"
	entries[0], entries[1] = journal.Entry{}, journal.Entry{}
	known(t, j, want, 2)
}
