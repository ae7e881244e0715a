package hist_test

import (
	"math"
	"slices"
	"strings"
	"testing"

	"impost/api"
	"impost/event"
	"impost/hist"
)

func put(k, v string) api.Op { return api.Op{Key: k, Val: v} }

func del(k string) api.Op { return api.Op{Key: k, Del: true} }

func ops(l ...api.Op) []api.Op { return l }

// was is the event of a key that was put, gone that of one that was deleted.
func was(rev int, k, v string) api.Event { return api.Event{Rev: rev, Key: k, Val: v} }

func gone(rev int, k string) api.Event { return api.Event{Rev: rev, Key: k, Del: true} }

func events(l ...api.Event) []api.Event { return l }

func kv(k, v string, rev int) api.KV { return api.KV{Key: k, Val: v, Rev: rev} }

func kvs(l ...api.KV) []api.KV { return l }

func between(from, to string) api.Range { return api.Range{From: from, To: to} }

// all is the range that has every key.
var all = api.Range{}

// long is a text that is far longer than any key or value may be.
func long() string { return strings.Repeat("k", 1<<16) }

// made is a Hist of so many revisions.
func made(t *testing.T, revs ...[]api.Op) *hist.Hist {
	t.Helper()
	h := hist.New()
	if h == nil {
		t.Fatal("New is nil")
	}
	for i, l := range revs {
		if e := h.Apply(l); len(e) == 0 || h.Rev() != i+1 {
			t.Fatalf("Apply(%v), numbered %d: %v, the revision %d", l, i+1, e, h.Rev())
		}
	}
	return h
}

// compacted is a Hist whose horizon is that.
func compacted(t *testing.T, h *hist.Hist, hor int) *hist.Hist {
	t.Helper()
	if err := h.Compact(hor); err != api.OK || h.Hor() != hor {
		t.Fatalf("Compact(%d): %v, the horizon %d", hor, err, h.Hor())
	}
	return h
}

// tells looks that a range has just that at a revision.
func tells(t *testing.T, h *hist.Hist, rev int, r api.Range, want []api.KV) {
	t.Helper()
	if l, err := h.At(rev, r); err != api.OK || !slices.Equal(l, want) {
		t.Errorf("At(%d, %.40q): %.200v, %v, not %.200v", rev, r, l, err, want)
	}
}

// did looks that a revision's events are just those.
func did(t *testing.T, h *hist.Hist, rev int, want []api.Event) {
	t.Helper()
	if l, err := h.Events(rev); err != api.OK || !slices.Equal(l, want) {
		t.Errorf("Events(%d): %.200v, %v, not %.200v", rev, l, err, want)
	}
}

// ends looks that a Hist has that last revision, and that horizon.
func ends(t *testing.T, h *hist.Hist, rev, hor int) {
	t.Helper()
	if h.Rev() != rev || h.Hor() != hor {
		t.Errorf("the revision %d, the horizon %d, not %d and %d", h.Rev(), h.Hor(), rev, hor)
	}
}

// said is a map at all its revisions in the chapter's words: nothing is left out, and what there is is made anew.
type said struct {
	rows [][]api.Event // that of the revision 1 is first
	hor  int
}

func (s *said) rev() int { return len(s.rows) }

func (s *said) at(rev int) []api.KV { return event.Fold(nil, slices.Concat(s.rows[:rev]...)) }

func (s *said) apply(l []api.Op) []api.Event {
	m := s.at(s.rev())
	var row []api.Event
	for i, o := range l {
		again := slices.ContainsFunc(l[i+1:], func(x api.Op) bool { return x.Key == o.Key })
		there := slices.ContainsFunc(m, func(x api.KV) bool { return x.Key == o.Key })
		switch {
		case again, o.Del && !there:
		case o.Del:
			row = append(row, gone(s.rev()+1, o.Key))
		default:
			row = append(row, was(s.rev()+1, o.Key, o.Val))
		}
	}
	if len(row) > 0 {
		s.rows = append(s.rows, row)
	}
	return row
}

func (s *said) compact(rev int) api.Errno {
	if rev < 0 {
		return api.ErrArg
	}
	if rev > s.rev() {
		return api.ErrFuture
	}
	s.hor = max(s.hor, rev)
	return api.OK
}

func (s *said) may(rev, first int) api.Errno {
	if rev < first {
		return api.ErrOld
	}
	if rev > s.rev() {
		return api.ErrFuture
	}
	return api.OK
}

// revs are all revisions of so many, those next to them, and those that are far away.
func revs(last int) []int {
	l := []int{math.MinInt, math.MinInt + 1, -(1 << 40), -2, -1, 0}
	for r := range last + 3 {
		l = append(l, r+1)
	}
	return append(l, 1<<40, math.MaxInt-1, math.MaxInt)
}

// ranges are all of some ends, those that have no key among them.
func ranges() []api.Range {
	ends := []string{"", "a", "a\x00", "ab", "ab\x00", "b", "b\x00", "c"}
	var l []api.Range
	for _, from := range ends {
		for _, to := range ends {
			l = append(l, between(from, to))
		}
	}
	return l
}

// agrees looks that a Hist tells what the chapter's words say, of all revisions and some ranges.
func agrees(t *testing.T, h *hist.Hist, s *said, rs ...api.Range) {
	t.Helper()
	ends(t, h, s.rev(), s.hor)
	for _, rev := range revs(s.rev()) {
		var m []api.KV
		err := s.may(rev, s.hor)
		if err == api.OK {
			m = s.at(rev)
		}
		for _, r := range rs {
			if l, e := h.At(rev, r); e != err || !slices.Equal(l, event.Restrict(m, r)) {
				t.Fatalf("At(%d, %.40q): %.200v, %v, not %v of %.200v; rows %.400v", rev, r, l, e, err, m, s.rows)
			}
		}
		var row []api.Event
		err = s.may(rev, s.hor+1)
		if err == api.OK {
			row = s.rows[rev-1]
		}
		if l, e := h.Events(rev); e != err || !slices.Equal(l, row) {
			t.Fatalf("Events(%d): %.200v, %v, not %.200v, %v", rev, l, e, row, err)
		}
	}
}

// P6.1: New.

func TestNew(t *testing.T) {
	h := made(t)
	ends(t, h, 0, 0)
	for _, r := range ranges() {
		tells(t, h, 0, r, nil)
	}
	for _, rev := range revs(0) {
		if rev == 0 {
			continue
		}
		want := api.ErrOld
		if rev > 0 {
			want = api.ErrFuture
		}
		if l, err := h.At(rev, all); err != want || len(l) != 0 {
			t.Errorf("At(%d): %v, %v", rev, l, err)
		}
		if l, err := h.Events(rev); err != want || len(l) != 0 {
			t.Errorf("Events(%d): %v, %v", rev, l, err)
		}
	}
	if l, err := h.Events(0); err != api.ErrOld || len(l) != 0 {
		t.Errorf("Events(0): %v, %v", l, err)
	}
	if err := h.Compact(0); err != api.OK {
		t.Errorf("Compact(0): %v", err)
	}
	if err := h.Compact(1); err != api.ErrFuture {
		t.Errorf("Compact(1): %v", err)
	}
	agrees(t, h, &said{}, ranges()...)
}

// Each one is its own.
func TestNewOnes(t *testing.T) {
	a, b := made(t, ops(put("a", "x"))), made(t)
	if a == b {
		t.Fatal("New tells the same one twice")
	}
	ends(t, b, 0, 0)
	b.Apply(ops(put("b", "y")))
	b.Apply(ops(put("b", "z")))
	compacted(t, b, 2)
	ends(t, a, 1, 0)
	tells(t, a, 1, all, kvs(kv("a", "x", 1)))
	did(t, a, 1, events(was(1, "a", "x")))
}

// P6.1: Apply.

func TestApply(t *testing.T) {
	first := ops(put("b", "1"), put("d", "2"))
	b, d := kv("b", "1", 1), kv("d", "2", 1)
	cases := []struct {
		name string
		ops  []api.Op
		want []api.Event
		at   []api.KV
	}{
		{"no ops", nil, nil, kvs(b, d)},
		{"no ops, empty", ops(), nil, kvs(b, d)},
		{"put", ops(put("c", "x")), events(was(2, "c", "x")), kvs(b, kv("c", "x", 2), d)},
		{"put below", ops(put("a", "x")), events(was(2, "a", "x")), kvs(kv("a", "x", 2), b, d)},
		{"put above", ops(put("e", "x")), events(was(2, "e", "x")), kvs(b, d, kv("e", "x", 2))},
		{"put without a value", ops(put("c", "")), events(was(2, "c", "")), kvs(b, kv("c", "", 2), d)},
		{"put over", ops(put("b", "x")), events(was(2, "b", "x")), kvs(kv("b", "x", 2), d)},
		{"put over, with the value that it has", ops(put("b", "1")), events(was(2, "b", "1")), kvs(kv("b", "1", 2), d)},
		{"deleted", ops(del("b")), events(gone(2, "b")), kvs(d)},
		{"deleted, with a value", ops(api.Op{Key: "b", Val: "1", Del: true}), events(gone(2, "b")), kvs(d)},
		{"all deleted", ops(del("d"), del("b")), events(gone(2, "d"), gone(2, "b")), nil},
		{"deleted, that isn't there", ops(del("c")), nil, kvs(b, d)},
		{"deleted, that isn't there, with a value", ops(api.Op{Key: "c", Val: "1", Del: true}), nil, kvs(b, d)},
		{"deletions alone, of which none counts", ops(del("a"), del("c"), del("e"), del("c")), nil, kvs(b, d)},
		{"deletions alone, of which one counts", ops(del("a"), del("d"), del("e")), events(gone(2, "d")), kvs(b)},
		{"deleted twice", ops(del("b"), del("b")), events(gone(2, "b")), kvs(d)},
		{"some, in turn as they are", ops(put("e", "x"), del("b"), put("c", "y"), put("d", "z")), events(was(2, "e", "x"), gone(2, "b"), was(2, "c", "y"), was(2, "d", "z")), kvs(kv("c", "y", 2), kv("d", "z", 2), kv("e", "x", 2))},
		{"some, but a deletion between", ops(put("e", "x"), del("c"), put("a", "y")), events(was(2, "e", "x"), was(2, "a", "y")), kvs(kv("a", "y", 2), b, d, kv("e", "x", 2))},
		{"one key twice", ops(put("c", "x"), put("c", "y")), events(was(2, "c", "y")), kvs(b, kv("c", "y", 2), d)},
		{"one key twice, the same", ops(put("c", "x"), put("c", "x")), events(was(2, "c", "x")), kvs(b, kv("c", "x", 2), d)},
		{"one key twice, at its last place", ops(put("c", "x"), put("a", "y"), put("c", "z")), events(was(2, "a", "y"), was(2, "c", "z")), kvs(kv("a", "y", 2), b, kv("c", "z", 2), d)},
		{"one key three times, at its last place", ops(put("c", "x"), put("c", "y"), put("a", "y"), put("c", "z"), put("e", "v")), events(was(2, "a", "y"), was(2, "c", "z"), was(2, "e", "v")), kvs(kv("a", "y", 2), b, kv("c", "z", 2), d, kv("e", "v", 2))},
		{"two keys twice", ops(put("a", "1"), put("c", "2"), put("a", "3"), put("c", "4")), events(was(2, "a", "3"), was(2, "c", "4")), kvs(kv("a", "3", 2), b, kv("c", "4", 2), d)},
		{"two keys twice, one within the other", ops(put("a", "1"), put("c", "2"), put("c", "3"), put("a", "4")), events(was(2, "c", "3"), was(2, "a", "4")), kvs(kv("a", "4", 2), b, kv("c", "3", 2), d)},
		{"put and deleted, that is there", ops(put("b", "x"), del("b")), events(gone(2, "b")), kvs(d)},
		{"put and deleted, that isn't there", ops(put("c", "x"), del("c")), nil, kvs(b, d)},
		{"put and deleted, that isn't there, and another one", ops(put("c", "x"), put("a", "y"), del("c")), events(was(2, "a", "y")), kvs(kv("a", "y", 2), b, d)},
		{"put and deleted, at its last place", ops(put("b", "x"), put("a", "y"), del("b")), events(was(2, "a", "y"), gone(2, "b")), kvs(kv("a", "y", 2), d)},
		{"deleted and put, that is there", ops(del("b"), put("b", "x")), events(was(2, "b", "x")), kvs(kv("b", "x", 2), d)},
		{"deleted and put, that isn't there", ops(del("c"), put("c", "x")), events(was(2, "c", "x")), kvs(b, kv("c", "x", 2), d)},
		{"deleted and put, at its last place", ops(del("b"), put("a", "y"), put("b", "x")), events(was(2, "a", "y"), was(2, "b", "x")), kvs(kv("a", "y", 2), kv("b", "x", 2), d)},
		{"deleted, put, and deleted", ops(del("b"), put("b", "x"), del("b")), events(gone(2, "b")), kvs(d)},
		{"put, deleted, and put", ops(put("c", "x"), del("c"), put("c", "y")), events(was(2, "c", "y")), kvs(b, kv("c", "y", 2), d)},
		{"a key that another one begins with", ops(put("b\x00", "x"), put("bb", "y"), put("", "z")), events(was(2, "b\x00", "x"), was(2, "bb", "y"), was(2, "", "z")), kvs(kv("", "z", 2), b, kv("b\x00", "x", 2), kv("bb", "y", 2), d)},
		{"longer keys and values than may be", ops(put("123456789", "123456789"), put(long(), long())), events(was(2, "123456789", "123456789"), was(2, long(), long())), kvs(kv("123456789", "123456789", 2), b, d, kv(long(), long(), 2))},
		{"the zero op", ops(api.Op{}), events(was(2, "", "")), kvs(kv("", "", 2), b, d)},
		{"the empty key, deleted", ops(del("")), nil, kvs(b, d)},
	}
	for _, c := range cases {
		t.Run(c.name, func(t *testing.T) {
			h := made(t, first)
			if got := h.Apply(c.ops); !slices.Equal(got, c.want) {
				t.Errorf("told is %.200v, not %.200v", got, c.want)
			}
			rev := 1
			if len(c.want) > 0 {
				rev = 2
				did(t, h, 2, c.want)
			}
			ends(t, h, rev, 0)
			tells(t, h, rev, all, c.at)
			tells(t, h, 1, all, kvs(b, d))
			did(t, h, 1, events(was(1, "b", "1"), was(1, "d", "2")))
			if l, err := h.Events(rev + 1); err != api.ErrFuture || len(l) != 0 {
				t.Errorf("Events(%d): %v, %v", rev+1, l, err)
			}
		})
	}
}

// The chapter's example: put, and deleted: two revisions; deleted again, no third one.
func TestApplyOfTheExample(t *testing.T) {
	h := made(t, ops(put("a", "x")), ops(del("a")))
	ends(t, h, 2, 0)
	if l := h.Apply(ops(del("a"))); len(l) != 0 {
		t.Errorf("deleted again: %v", l)
	}
	ends(t, h, 2, 0)
	tells(t, h, 0, all, nil)
	tells(t, h, 1, all, kvs(kv("a", "x", 1)))
	tells(t, h, 2, all, nil)
	did(t, h, 2, events(gone(2, "a")))
	if l := h.Apply(ops(put("a", "y"))); !slices.Equal(l, events(was(3, "a", "y"))) {
		t.Errorf("put again: %v", l)
	}
	if l := h.Apply(ops(del("a"))); !slices.Equal(l, events(gone(4, "a"))) {
		t.Errorf("deleted, once it is there again: %v", l)
	}
}

// What isn't there is asked of the last revision, also once that is the horizon.
func TestApplyOnceCompacted(t *testing.T) {
	h := compacted(t, made(t, ops(put("a", "1"), put("b", "2"), put("c", "3")), ops(del("b"), put("c", "4"))), 2)
	for _, k := range []string{"b", "d"} {
		if l := h.Apply(ops(del(k))); len(l) != 0 {
			t.Errorf("%q deleted, that isn't there: %v", k, l)
		}
	}
	ends(t, h, 2, 2)
	want := events(gone(3, "a"), gone(3, "c"), was(3, "b", "x"))
	if l := h.Apply(ops(del("a"), del("c"), put("b", "x"))); !slices.Equal(l, want) {
		t.Errorf("of all three: %v", l)
	}
	tells(t, h, 2, all, kvs(kv("a", "1", 1), kv("c", "4", 2)))
	tells(t, h, 3, all, kvs(kv("b", "x", 3)))
	if l := h.Apply(ops(del("a"), del("c"))); len(l) != 0 {
		t.Errorf("deleted again: %v", l)
	}
	ends(t, h, 3, 2)
}

// lists are all of so many at most, of those that are handed in.
func lists[T any](most int, of ...T) [][]T {
	all, row := [][]T{nil}, [][]T{nil}
	for range most {
		var next [][]T
		for _, l := range row {
			for _, x := range of {
				next = append(next, append(slices.Clone(l), x))
			}
		}
		all, row = append(all, next...), next
	}
	return all
}

// All lists of four ops at most of two keys, upon all maps of these.
func TestApplyInEveryWay(t *testing.T) {
	firsts := [][]api.Op{nil, ops(put("a", "1")), ops(put("b", "2")), ops(put("b", "2"), put("a", "1"))}
	some := ops(put("a", "v"), put("a", "w"), del("a"), put("b", "v"), put("b", "w"), del("b"))
	for _, first := range firsts {
		for _, l := range lists(4, some...) {
			h, s := made(t), &said{}
			h.Apply(first)
			s.apply(first)
			want := s.apply(l)
			if got := h.Apply(l); !slices.Equal(got, want) {
				t.Fatalf("upon %v, Apply(%v): %v, not %v", first, l, got, want)
			}
			agrees(t, h, s, all, between("b", ""))
		}
	}
}

// The limits of transactions and of the log are those of other layers.
func TestMoreThanOtherLayersLet(t *testing.T) {
	h := made(t)
	for i := range api.MaxRev + 100 {
		k := string([]byte{byte(i)})
		if l := h.Apply(ops(put(k, "v"))); !slices.Equal(l, events(was(i+1, k, "v"))) {
			t.Fatalf("Apply, numbered %d: %v", i+1, l)
		}
	}
	ends(t, h, api.MaxRev+100, 0)
	tells(t, h, 2, all, kvs(kv("\x00", "v", 1), kv("\x01", "v", 2)))
	did(t, h, 1, events(was(1, "\x00", "v")))
	tells(t, h, api.MaxRev+100, between("", "\x01"), kvs(kv("\x00", "v", 1025)))
	tells(t, h, 1024, between("", "\x01"), kvs(kv("\x00", "v", 769)))
}

// So many keys that a map that is gone through as it comes would hardly ever tell them rising, or in turn.
func TestManyKeys(t *testing.T) {
	var l []api.Op
	var row []api.Event
	var m []api.KV
	for i := range 512 {
		k := string([]byte{byte(i * 37)})
		l = append(l, put(k, "v"))
		if i >= 256 {
			row = append(row, was(1, k, "v"))
		}
	}
	for b := range 256 {
		m = append(m, kv(string([]byte{byte(b)}), "v", 1))
	}
	h := made(t)
	if got := h.Apply(l); !slices.Equal(got, row) {
		t.Errorf("Apply: %v", got)
	}
	did(t, h, 1, row)
	tells(t, h, 1, all, m)
	tells(t, h, 1, between("\x40", "\xc0"), m[64:192])
	compacted(t, h, 1)
	tells(t, h, 1, all, m)
}

// P6.2: At.

// seven is of seven revisions: a stays, b is put twice and deleted, c is deleted and put again.
func seven(t *testing.T) *hist.Hist {
	t.Helper()
	return made(t,
		ops(put("c", "1"), put("a", "1")),
		ops(put("b", "2")),
		ops(del("c"), put("ab", "3")),
		ops(put("b", "4")),
		ops(put("c", "5"), del("ab")),
		ops(del("b")),
		ops(put("d", "7")),
	)
}

func TestAt(t *testing.T) {
	a, ab := kv("a", "1", 1), kv("ab", "3", 3)
	want := [][]api.KV{
		nil,
		kvs(a, kv("c", "1", 1)),
		kvs(a, kv("b", "2", 2), kv("c", "1", 1)),
		kvs(a, ab, kv("b", "2", 2)),
		kvs(a, ab, kv("b", "4", 4)),
		kvs(a, kv("b", "4", 4), kv("c", "5", 5)),
		kvs(a, kv("c", "5", 5)),
		kvs(a, kv("c", "5", 5), kv("d", "7", 7)),
	}
	for hor := range 8 {
		h := compacted(t, seven(t), hor)
		for _, rev := range revs(7) {
			for _, r := range ranges() {
				l, err := h.At(rev, r)
				switch {
				case rev < hor:
					if err != api.ErrOld || len(l) != 0 {
						t.Errorf("the horizon %d: At(%d, %q): %v, %v", hor, rev, r, l, err)
					}
				case rev > 7:
					if err != api.ErrFuture || len(l) != 0 {
						t.Errorf("the horizon %d: At(%d, %q): %v, %v", hor, rev, r, l, err)
					}
				default:
					tells(t, h, rev, r, event.Restrict(want[rev], r))
				}
			}
		}
		ends(t, h, 7, hor)
	}
}

func TestAtOfRanges(t *testing.T) {
	h := seven(t)
	a, ab, b := kv("a", "1", 1), kv("ab", "3", 3), kv("b", "4", 4)
	cases := []struct {
		name string
		r    api.Range
		want []api.KV
	}{
		{"all", all, kvs(a, ab, b)},
		{"all, by both ends", between("a", "b\x00"), kvs(a, ab, b)},
		{"none: above", between("b\x00", ""), nil},
		{"none: below", between("", "a"), nil},
		{"none: between two keys", between("ab\x00", "b"), nil},
		{"none: a key that was deleted", between("c", "d"), nil},
		{"none: a key that is put later", between("d", "e"), nil},
		{"none: To at From", between("a", "a"), nil},
		{"none: To below From", between("b", "a"), nil},
		{"some: from From on", between("ab", ""), kvs(ab, b)},
		{"some: not just below From", between("a\x00", ""), kvs(ab, b)},
		{"some: below To", between("", "b"), kvs(a, ab)},
		{"some: one between", between("ab", "b"), kvs(ab)},
		{"one key", between("a", "a\x00"), kvs(a)},
		{"a prefix", between("a", "b"), kvs(a, ab)},
		{"from a text that is far longer than keys may be", between(long(), ""), nil},
		{"below a text that is far longer than keys may be", between("", long()), kvs(a, ab, b)},
	}
	for _, c := range cases {
		t.Run(c.name, func(t *testing.T) { tells(t, h, 4, c.r, c.want) })
	}
}

// Keys and values that no transaction puts are what they are.
func TestAtOfWhatMayNotBe(t *testing.T) {
	h := made(t, ops(put("", "x"), put("123456789", long())), ops(put(long(), "\xff\x00")), ops(del("")))
	nine, l := kv("123456789", long(), 1), kv(long(), "\xff\x00", 2)
	tells(t, h, 1, all, kvs(kv("", "x", 1), nine))
	tells(t, h, 1, between("", "\x00"), kvs(kv("", "x", 1)))
	tells(t, h, 2, all, kvs(kv("", "x", 1), nine, l))
	tells(t, h, 3, all, kvs(nine, l))
	tells(t, h, 3, between(long(), long()+"\x00"), kvs(l))
	did(t, h, 3, events(gone(3, "")))
	compacted(t, h, 3)
	tells(t, h, 3, all, kvs(nine, l))
	if l := h.Apply(ops(del(""), put("", "y"), del(long()))); !slices.Equal(l, events(was(4, "", "y"), gone(4, long()))) {
		t.Errorf("Apply: %.200v", l)
	}
}

// P6.2: Events.

func TestEvents(t *testing.T) {
	want := [][]api.Event{
		events(was(1, "c", "1"), was(1, "a", "1")),
		events(was(2, "b", "2")),
		events(gone(3, "c"), was(3, "ab", "3")),
		events(was(4, "b", "4")),
		events(was(5, "c", "5"), gone(5, "ab")),
		events(gone(6, "b")),
		events(was(7, "d", "7")),
	}
	for hor := range 8 {
		h := compacted(t, seven(t), hor)
		for _, rev := range revs(7) {
			l, err := h.Events(rev)
			switch {
			case rev <= hor:
				if err != api.ErrOld || len(l) != 0 {
					t.Errorf("the horizon %d: Events(%d): %v, %v", hor, rev, l, err)
				}
			case rev > 7:
				if err != api.ErrFuture || len(l) != 0 {
					t.Errorf("the horizon %d: Events(%d): %v, %v", hor, rev, l, err)
				}
			default:
				did(t, h, rev, want[rev-1])
			}
		}
		ends(t, h, 7, hor)
	}
}

// P6.2: Compact.

func TestCompact(t *testing.T) {
	cases := []struct {
		name          string
		hor, rev, now int
		want          api.Errno
	}{
		{"below 0", 3, -1, 3, api.ErrArg},
		{"below 0, at the horizon 0", 0, -1, 0, api.ErrArg},
		{"far below 0", 3, math.MinInt, 3, api.ErrArg},
		{"0, at the horizon 0", 0, 0, 0, api.OK},
		{"0", 3, 0, 3, api.OK},
		{"below the horizon", 3, 1, 3, api.OK},
		{"just below the horizon", 3, 2, 3, api.OK},
		{"the horizon", 3, 3, 3, api.OK},
		{"just above the horizon", 3, 4, 4, api.OK},
		{"between", 3, 5, 5, api.OK},
		{"the last revision", 3, 7, 7, api.OK},
		{"the last revision, at the horizon 0", 0, 7, 7, api.OK},
		{"the last revision, which is the horizon", 7, 7, 7, api.OK},
		{"below the horizon, which is the last revision", 7, 6, 7, api.OK},
		{"just above the last revision", 3, 8, 3, api.ErrFuture},
		{"above the last revision, which is the horizon", 7, 8, 7, api.ErrFuture},
		{"far above the last revision", 3, math.MaxInt, 3, api.ErrFuture},
	}
	for _, c := range cases {
		t.Run(c.name, func(t *testing.T) {
			h, s := compacted(t, seven(t), c.hor), &said{hor: c.now}
			for rev := range 7 {
				row, _ := seven(t).Events(rev + 1)
				s.rows = append(s.rows, row)
			}
			if err := h.Compact(c.rev); err != c.want {
				t.Errorf("Compact(%d): %v, not %v", c.rev, err, c.want)
			}
			agrees(t, h, s, ranges()...)
		})
	}
}

// Compacted at the last revision, each time: there is always just that one.
func TestCompactEachTime(t *testing.T) {
	h, s := made(t), &said{}
	l := [][]api.Op{
		ops(put("a", "1")), ops(put("a", "2"), put("b", "1")), ops(del("a")), ops(del("a"), put("b", "2")),
		ops(put("a", "3"), del("b")), ops(put("c", "1")), ops(del("c"), del("a")), ops(put("b", "3")),
	}
	for _, o := range l {
		if got, want := h.Apply(o), s.apply(o); !slices.Equal(got, want) {
			t.Fatalf("Apply(%v): %v, not %v", o, got, want)
		}
		if got, want := h.Compact(h.Rev()), s.compact(s.rev()); got != want {
			t.Fatalf("Compact: %v, not %v", got, want)
		}
		agrees(t, h, s, ranges()...)
	}
}

// P6.2: Copy.

func TestCopy(t *testing.T) {
	for hor := range 8 {
		h, s := compacted(t, seven(t), hor), &said{hor: hor}
		for rev := range 7 {
			row, _ := seven(t).Events(rev + 1)
			s.rows = append(s.rows, row)
		}
		c := h.Copy()
		if c == nil || c == h {
			t.Fatalf("Copy is %p, of %p", c, h)
		}
		agrees(t, c, s, ranges()...)
		agrees(t, c.Copy(), s, ranges()...)
	}
	agrees(t, made(t).Copy(), &said{}, ranges()...)
}

// Both are changed and compacted behind a copy: neither changes anything of the other one.
func TestCopyIsItsOwn(t *testing.T) {
	// Of each key as many versions as leave room behind them, which neither may write into for both.
	for n := range 10 {
		h, s := made(t), &said{}
		for i := range n {
			l := ops(put("a", string([]byte{byte('0' + i)})), put("b", "x"), del("c"), put([]string{"c", "d"}[i%2], "y"))
			h.Apply(l)
			s.apply(l)
		}
		c, of := h.Copy(), &said{rows: slices.Clone(s.rows)}
		mine, other := ops(put("a", "mine"), del("b"), put("e", "")), ops(put("b", "other"), put("a", "other"), del("d"))
		for range 3 {
			if got, want := h.Apply(mine), s.apply(mine); !slices.Equal(got, want) {
				t.Errorf("Apply(%v): %v, not %v", mine, got, want)
			}
			agrees(t, c, of, ranges()...)
			if got, want := c.Apply(other), of.apply(other); !slices.Equal(got, want) {
				t.Errorf("Apply(%v) of the copy: %v, not %v", other, got, want)
			}
			agrees(t, h, s, ranges()...)
		}
		s.hor = n + 1
		compacted(t, h, n+1)
		agrees(t, c, of, ranges()...)
		of.hor = n + 2
		compacted(t, c, n+2)
		agrees(t, h, s, ranges()...)
		agrees(t, c, of, ranges()...)
	}
}

// P6.2: of a Hist that is nil: nothing, ErrArg, 0, nil, whatever else is handed in.
func TestNil(t *testing.T) {
	var h *hist.Hist
	for _, l := range [][]api.Op{nil, {}, {{}}, ops(put("a", "x")), ops(del("a")), ops(put(long(), long()), del(""))} {
		if got := h.Apply(l); len(got) != 0 {
			t.Errorf("Apply(%.200v): %.200v", l, got)
		}
	}
	for _, rev := range revs(1) {
		for _, r := range ranges() {
			if l, err := h.At(rev, r); err != api.ErrArg || len(l) != 0 {
				t.Errorf("At(%d, %q): %v, %v", rev, r, l, err)
			}
		}
		if l, err := h.Events(rev); err != api.ErrArg || len(l) != 0 {
			t.Errorf("Events(%d): %v, %v", rev, l, err)
		}
		if err := h.Compact(rev); err != api.ErrArg {
			t.Errorf("Compact(%d): %v", rev, err)
		}
	}
	ends(t, h, 0, 0)
	if c := h.Copy(); c != nil {
		t.Errorf("Copy: %v", c)
	}
}

// P6.3.

// step is a call that changes a Hist: Apply of ops, or Compact, if there is what it is to be compacted at.
type step struct {
	name string
	ops  []api.Op
	hor  func(last, hor int) int
}

func steps() []step {
	return []step{
		{name: "put a", ops: ops(put("a", "1"))},
		{name: "put a and b", ops: ops(put("b", "2"), put("a", "2"))},
		{name: "delete a, put ab", ops: ops(del("a"), put("ab", "3"))},
		{name: "delete all", ops: ops(del("b"), del("a"), del("ab"))},
		{name: "nothing", ops: ops(put("c", "x"), del("c"))},
		{name: "compact one", hor: func(last, hor int) int { return hor + 1 }},
		{name: "compact but one", hor: func(last, hor int) int { return last - 1 }},
		{name: "compact all", hor: func(last, hor int) int { return last }},
	}
}

// do does a step, by a Hist and by the chapter's words.
func do(t *testing.T, x step, h *hist.Hist, s *said) {
	t.Helper()
	if x.hor == nil {
		if got, want := h.Apply(x.ops), s.apply(x.ops); !slices.Equal(got, want) {
			t.Fatalf("%s: %v, not %v", x.name, got, want)
		}
		return
	}
	rev := x.hor(s.rev(), s.hor)
	if got, want := h.Compact(rev), s.compact(rev); got != want {
		t.Fatalf("%s, at %d: %v, not %v", x.name, rev, got, want)
	}
}

// All ways of five steps: what is told is what the chapter's words say.
func TestInEveryWay(t *testing.T) {
	for _, way := range lists(5, steps()...) {
		h, s := made(t), &said{}
		for _, x := range way {
			do(t, x, h, s)
		}
		agrees(t, h, s, all, between("a\x00", "b"))
	}
}

// seen is what a Hist told of a revision.
type seen struct {
	rev int
	at  []api.KV
	did []api.Event
}

// see is what a Hist tells of its last revision.
func see(h *hist.Hist) seen {
	x := seen{rev: h.Rev()}
	x.at, _ = h.At(x.rev, all)
	x.did, _ = h.Events(x.rev)
	return x
}

// stay looks that what was told of revisions is told still, but below the horizon nothing, and at it no events.
func stay(t *testing.T, h *hist.Hist, l []seen) {
	t.Helper()
	for _, x := range l {
		m, err := h.At(x.rev, all)
		if x.rev < h.Hor() && (err != api.ErrOld || len(m) != 0) || x.rev >= h.Hor() && (err != api.OK || !slices.Equal(m, x.at)) {
			t.Fatalf("the horizon %d: At(%d): %v, %v, which was %v", h.Hor(), x.rev, m, err, x.at)
		}
		row, err := h.Events(x.rev)
		if x.rev <= h.Hor() && (err != api.ErrOld || len(row) != 0) || x.rev > h.Hor() && (err != api.OK || !slices.Equal(row, x.did)) {
			t.Fatalf("the horizon %d: Events(%d): %v, %v, which was %v", h.Hor(), x.rev, row, err, x.did)
		}
	}
}

// What there is at a revision stays so, whatever is done later: all ways of four steps, each behind some that changed all keys.
func TestWhatThereIsStays(t *testing.T) {
	for _, way := range lists(4, steps()...) {
		h, s := made(t), &said{}
		l := []seen{see(h)}
		for i, x := range append([]step{steps()[1], steps()[2], steps()[1]}, way...) {
			last := h.Rev()
			do(t, x, h, s)
			if h.Rev() > last {
				l = append(l, see(h))
			}
			if len(l) != h.Rev()+1 {
				t.Fatalf("behind step %d: the revision %d, behind %d", i, h.Rev(), len(l)-1)
			}
			stay(t, h, l)
		}
	}
}

// As long as it isn't below the horizon: it stays so as the horizon rises, one by one, and not beyond.
func TestWhatThereIsStaysUpToTheHorizon(t *testing.T) {
	h := made(t)
	l := []seen{see(h)}
	for i := range 40 {
		k := string([]byte{byte('a' + i*7%5)})
		o := ops(put(k, k), del(string([]byte{byte('a' + i*3%5)})), put("z", string([]byte{byte('0' + i)})))
		if got := h.Apply(o); len(got) == 0 {
			t.Fatalf("Apply(%v): %v", o, got)
		}
		l = append(l, see(h))
		stay(t, h, l)
	}
	for rev := range 41 {
		compacted(t, h, rev)
		stay(t, h, l)
	}
	for _, rev := range []int{0, 7, 39} {
		if err := h.Compact(rev); err != api.OK {
			t.Fatalf("Compact(%d): %v", rev, err)
		}
		ends(t, h, 40, 40)
		stay(t, h, l)
	}
}

// Each revision is the one ahead of it, with its events; a range, too, with those that it has.
func TestEachRevisionIsTheOneAheadWithItsEvents(t *testing.T) {
	for hor := range 8 {
		h := compacted(t, seven(t), hor)
		for rev := hor + 1; rev <= 7; rev++ {
			row, _ := h.Events(rev)
			for _, r := range ranges() {
				ahead, _ := h.At(rev-1, r)
				tells(t, h, rev, r, event.Fold(ahead, event.Filter(row, r)))
			}
		}
	}
}

// The revisions of a Hist that others are compacted from are theirs, too: the events up to there don't matter.
func TestFoldedFromAnyRevision(t *testing.T) {
	h := seven(t)
	for from := range 8 {
		c := compacted(t, h.Copy(), from)
		m, _ := c.At(from, all)
		for rev := from + 1; rev <= 7; rev++ {
			row, _ := c.Events(rev)
			m = event.Fold(m, row)
			tells(t, h, rev, all, m)
			tells(t, c, rev, all, m)
		}
	}
}

// R3: what is handed in stays as it is, and is shared with nothing; what is told is the caller's own.

// spoil writes over all that a list has, and over the room behind it.
func spoil[T any](l []T) { clear(l[:cap(l)]) }

func TestOpsStayAsTheyAre(t *testing.T) {
	l := ops(put("a", "1"), del("b"), put("c", "2"), put("a", "3"), api.Op{Key: "c", Val: "v", Del: true}, put("spare", "4"), del("spare"))
	for n := range 6 {
		whole := slices.Clone(l)
		h, s := made(t, ops(put("b", "0"))), &said{}
		s.apply(ops(put("b", "0")))
		want := s.apply(l[:n])
		got := h.Apply(whole[:n])
		if !slices.Equal(whole, l) {
			t.Errorf("Apply of %d: handed in is %v", n, whole)
		}
		spoil(whole)
		if !slices.Equal(got, want) {
			t.Errorf("Apply of %d: told is %v, once what was handed in has changed", n, got)
		}
		agrees(t, h, s, ranges()...)
	}
}

func TestWhatIsToldIsTheCallersOwn(t *testing.T) {
	h, s := made(t), &said{}
	l := [][]api.Op{ops(put("b", "1"), put("a", "1")), ops(put("a", "2"), del("b"), put("c", "2")), ops(put("b", "3"), put("a", "3"), put("d", "3"))}
	for _, o := range l {
		s.apply(o)
		spoil(h.Apply(o))
		agrees(t, h, s, ranges()...)
	}
	for hor := range 4 {
		s.hor = hor
		compacted(t, h, hor)
		for rev := range 4 {
			for _, r := range ranges() {
				m, _ := h.At(rev, r)
				spoil(m)
			}
			row, _ := h.Events(rev)
			spoil(row)
		}
		agrees(t, h, s, ranges()...)
	}
}

// One list that is told shares nothing with another one, nor with what is told of a copy.
func TestNothingThatIsToldIsShared(t *testing.T) {
	h := made(t, ops(put("b", "1"), put("a", "1")))
	c := h.Copy()
	want, m := events(was(1, "b", "1"), was(1, "a", "1")), kvs(kv("a", "1", 1), kv("b", "1", 1))
	row, _ := h.Events(1)
	again, _ := h.Events(1)
	other, _ := c.Events(1)
	spoil(row)
	if !slices.Equal(again, want) || !slices.Equal(other, want) {
		t.Errorf("told again: %v; of the copy: %v", again, other)
	}
	at, _ := h.At(1, all)
	atAgain, _ := h.At(1, all)
	atOther, _ := c.At(1, all)
	spoil(at)
	if !slices.Equal(atAgain, m) || !slices.Equal(atOther, m) {
		t.Errorf("told again: %v; of the copy: %v", atAgain, atOther)
	}
	spoil(other)
	did(t, h, 1, want)
	did(t, c, 1, want)
}

// R2: nil and empty are the same, handed in: neither makes a revision.
func TestNilAndEmpty(t *testing.T) {
	h := made(t, ops(put("a", "x")))
	for _, l := range [][]api.Op{nil, {}} {
		if got := h.Apply(l); len(got) != 0 {
			t.Errorf("Apply(%v): %v", l, got)
		}
		ends(t, h, 1, 0)
	}
}

// R4: what reads changes nothing, and nothing hangs on the order of a map.
func TestAskedAgain(t *testing.T) {
	h := made(t)
	for i := range 64 {
		h.Apply(ops(put(string([]byte{byte(i * 37)}), "v"), put(string([]byte{byte(i * 11)}), "w"), del(string([]byte{byte(i * 5)}))))
	}
	compacted(t, h, 20)
	rev, r := h.Rev(), between("\x20", "\xc0")
	at, _ := h.At(40, r)
	row, _ := h.Events(41)
	for range 20 {
		tells(t, h, 40, r, at)
		did(t, h, 41, row)
		c := h.Copy()
		tells(t, c, 40, r, at)
		did(t, c, 41, row)
		ends(t, h, rev, 20)
	}
}

// R1: what is refused changes nothing.
func TestWhatIsRefusedChangesNothing(t *testing.T) {
	h, s := made(t), &said{}
	for _, o := range [][]api.Op{ops(put("a", "1")), ops(put("b", "2"), del("a")), ops(put("a", "3"))} {
		h.Apply(o)
		s.apply(o)
	}
	s.hor = 1
	compacted(t, h, 1)
	for _, rev := range []int{math.MinInt, -1 << 40, -1, 4, 5, 1 << 40, math.MaxInt} {
		if _, err := h.At(rev, all); err == api.OK {
			t.Errorf("At(%d): %v", rev, err)
		}
		if _, err := h.Events(rev); err == api.OK {
			t.Errorf("Events(%d): %v", rev, err)
		}
		if err := h.Compact(rev); err == api.OK {
			t.Errorf("Compact(%d): %v", rev, err)
		}
		agrees(t, h, s, ranges()...)
	}
}

// P1: every call ends, and none panics.
func TestNoCallPanics(t *testing.T) {
	rs := append(ranges(), between(long(), ""), between("", long()), between(long(), long()), between("\xff", "\x00"))
	odd := [][]api.Op{nil, {}, {{}}, {{Del: true}}, {{Val: long(), Del: true}}, ops(put(long(), long()), del(long()), put("", "")), ops(del("\xff\xff\xff\xff\xff\xff\xff\xff\xff"), put("\x00", "\x00"))}
	for _, h := range []*hist.Hist{nil, made(t), seven(t), compacted(t, seven(t), 4), compacted(t, seven(t), 7)} {
		for _, l := range odd {
			h.Apply(l)
			for _, rev := range revs(12) {
				h.Events(rev)
				for _, r := range rs {
					h.At(rev, r)
				}
				h.Copy().Compact(rev)
			}
			h.Rev()
			h.Hor()
		}
		for _, rev := range revs(12) {
			h.Compact(rev)
			h.Apply(odd[5])
		}
	}
}
