package hist

import (
	"slices"
	"testing"

	"impost/api"
)

// What isn't told any more isn't kept: no rows up to the horizon, and of a key's versions up to there the last one alone, if that is no deletion.

// kept looks that a Hist keeps just the rows above its horizon, and of each key just those versions.
func kept(t *testing.T, h *Hist, want map[string]versions) {
	t.Helper()
	for r := range h.rows {
		if r <= h.horizon() || r > h.last() {
			t.Errorf("the horizon %d: the row of the revision %d is kept", h.horizon(), r)
		}
	}
	if len(h.rows) != h.last()-h.horizon() {
		t.Errorf("from the horizon %d to %d: %d rows are kept", h.horizon(), h.last(), len(h.rows))
	}
	for k, v := range h.keys {
		if !slices.Equal(v, want[k]) {
			t.Errorf("the horizon %d: of %q are kept %v, not %v", h.horizon(), k, v, want[k])
		}
	}
	if len(h.keys) != len(want) {
		t.Errorf("the horizon %d: %d keys are kept, not %d", h.horizon(), len(h.keys), len(want))
	}
}

func TestKept(t *testing.T) {
	h := New()
	h.Apply([]api.Op{{Key: "a", Val: "1"}, {Key: "b", Val: "1"}, {Key: "c", Val: "1"}})
	h.Apply([]api.Op{{Key: "a", Val: "2"}, {Key: "b", Del: true}})
	h.Apply([]api.Op{{Key: "a", Del: true}, {Key: "b", Val: "3"}})
	h.Apply([]api.Op{{Key: "b", Del: true}})
	a := versions{{Rev: 1, Key: "a", Val: "1"}, {Rev: 2, Key: "a", Val: "2"}, {Rev: 3, Key: "a", Del: true}}
	b := versions{{Rev: 1, Key: "b", Val: "1"}, {Rev: 2, Key: "b", Del: true}, {Rev: 3, Key: "b", Val: "3"}, {Rev: 4, Key: "b", Del: true}}
	c := versions{{Rev: 1, Key: "c", Val: "1"}}
	wants := []map[string]versions{
		{"a": a, "b": b, "c": c},
		{"a": a, "b": b, "c": c},
		{"a": a[1:], "b": b[2:], "c": c},
		{"b": b[2:], "c": c},
		{"c": c},
	}
	for hor, want := range wants {
		at := h.Copy()
		at.Compact(hor)
		kept(t, at, want)
	}
	for hor, want := range wants {
		h.Compact(hor)
		kept(t, h, want)
		kept(t, h.Copy(), want)
	}
}

// However often it is put, and deleted, and compacted: what is kept doesn't grow.
func TestKeptDoesNotGrow(t *testing.T) {
	h := New()
	for range 1000 {
		h.Apply([]api.Op{{Key: "a", Val: "x"}, {Key: "b", Val: "y"}})
		h.Apply([]api.Op{{Key: "b", Del: true}})
		h.Compact(h.Rev())
		kept(t, h, map[string]versions{"a": {{Rev: h.Rev() - 1, Key: "a", Val: "x"}}})
		if n := cap(h.keys["a"]); n > 4 {
			t.Fatalf("room for %d versions is kept", n)
		}
	}
}
