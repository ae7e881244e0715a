package cursor_test

import (
	"fmt"
	"math"
	"slices"
	"strings"
	"testing"

	"impost/api"
	"impost/cursor"
	"impost/event"
	"impost/hist"
	"impost/key"
	"impost/token"
)

func put(k, v string) api.Op { return api.Op{Key: k, Val: v} }

func del(k string) api.Op { return api.Op{Key: k, Del: true} }

func ops(l ...api.Op) []api.Op { return l }

func was(rev int, k, v string) api.Event { return api.Event{Rev: rev, Key: k, Val: v} }

func gone(rev int, k string) api.Event { return api.Event{Rev: rev, Key: k, Del: true} }

func events(l ...api.Event) []api.Event { return l }

func rows(l ...[]api.Event) [][]api.Event { return l }

func kv(k, v string, rev int) api.KV { return api.KV{Key: k, Val: v, Rev: rev} }

func kvs(l ...api.KV) []api.KV { return l }

func between(from, to string) api.Range { return api.Range{From: from, To: to} }

func head(rev, hor int) api.Head { return api.Head{Rev: rev, Hor: hor} }

// all is the range that has every key.
var all = api.Range{}

// either are the two ways of Once, and of Dead.
var either = []bool{false, true}

// of is a watch of a range, that isn't Dead; dead is the same, Dead.
func of(r api.Range, next int, once bool) cursor.Cursor {
	return cursor.Cursor{R: r, Next: next, Once: once}
}

func dead(c cursor.Cursor) cursor.Cursor {
	c.Dead = true
	return c
}

// at is the same watch, with another Next.
func at(c cursor.Cursor, next int) cursor.Cursor {
	c.Next = next
	return c
}

// long is a text that is far longer than any key may be.
func long() string { return strings.Repeat("k", 1<<16) }

// brief is the begin of what a test prints, as ends may be long.
func brief(x any) string {
	s := fmt.Sprintf("%+v", x)
	return s[:min(len(s), 300)]
}

// big is how far Next and Rev are asked of.
const big = 1 << 40

// far are numbers that are no revision, whatever there was.
func far() []int {
	return []int{math.MinInt, math.MinInt + 1, -big, math.MinInt32, -1002, -2, -1, 1002, 1 << 16, math.MaxInt32, big, math.MaxInt - 1, math.MaxInt}
}

func sameRows(a, b [][]api.Event) bool {
	return slices.EqualFunc(a, b, func(x, y []api.Event) bool { return slices.Equal(x, y) })
}

// told holds a watch, and its notice, to what they should be.
func told(t *testing.T, why string, c cursor.Cursor, n cursor.Notice, wantC cursor.Cursor, want cursor.Notice) {
	t.Helper()
	if c != wantC {
		t.Fatalf("%s: the watch is %s, not %s", why, brief(c), brief(wantC))
	}
	if n.Err != want.Err || n.Hor != want.Hor || n.Upto != want.Upto || !sameRows(n.Rows, want.Rows) {
		t.Fatalf("%s: the notice is %s, not %s", why, brief(n), brief(want))
	}
}

// P10.1: Window.

func TestWindow(t *testing.T) {
	live := func(next int) cursor.Cursor { return of(all, next, false) }
	cases := []struct {
		name string
		c    cursor.Cursor
		h    api.Head
		most int
		want int
	}{
		{"all there are", live(3), head(7, 0), 100, 5},
		{"all there are, from the first one on", live(1), head(7, 0), 100, 7},
		{"just as many as there are", live(3), head(7, 0), 5, 5},
		{"one less than there are", live(3), head(7, 0), 4, 4},
		{"one more than there are", live(3), head(7, 0), 6, 5},
		{"most 0", live(3), head(7, 0), 0, 0},
		{"most 1", live(3), head(7, 0), 1, 1},
		{"most 2", live(3), head(7, 0), 2, 2},
		{"most -1", live(3), head(7, 0), -1, 0},
		{"most far below 0", live(3), head(7, 0), math.MinInt, 0},
		{"most far above", live(3), head(7, 0), math.MaxInt, 5},
		{"one there is", live(7), head(7, 0), 100, 1},
		{"none there is yet", live(8), head(7, 0), 100, 0},
		{"none there is yet, most -1", live(8), head(7, 0), -1, 0},
		{"ahead", live(9), head(7, 0), 100, 0},
		{"ahead, most -1", live(9), head(7, 0), -1, 0},
		{"far ahead", live(big), head(7, 0), 100, 0},
		{"just above the horizon", live(4), head(7, 3), 100, 4},
		{"old by none", live(3), head(7, 3), 100, 0},
		{"old by one", live(2), head(7, 3), 100, 0},
		{"far old", live(-big), head(7, 3), 100, 0},
		{"of an empty map", live(1), head(0, 0), 100, 0},
		{"of an empty map, old", live(0), head(0, 0), 100, 0},
		{"of an empty map, ahead", live(2), head(0, 0), 100, 0},
		{"the horizon at the last revision", live(8), head(7, 7), 100, 0},
		{"the horizon at the last revision, old", live(7), head(7, 7), 100, 0},
		{"old and ahead", live(12), head(7, 20), 100, 0},
		{"the horizon below 0", live(0), head(7, -1), 100, 8},
		{"all below 0", live(-5), head(-3, -9), 100, 3},
		{"from far below 0 to far above", live(-big), head(big, -big-1), math.MaxInt, 2*big + 1},
		{"from far below 0, but few", live(-big), head(big, -big-1), 3, 3},
		{"the highest two", live(big - 1), head(big, 0), 9, 2},
		{"the highest", live(big), head(big, 0), 9, 1},
		{"the lowest", live(-big), head(-big, -big-1), 9, 1},
	}
	for _, c := range cases {
		if got := cursor.Window(c.c, c.h, c.most); got != c.want {
			t.Errorf("%s: Window: %d", c.name, got)
		}
		if got := cursor.Window(dead(c.c), c.h, c.most); got != 0 {
			t.Errorf("%s: Window of a Dead one: %d", c.name, got)
		}
	}
}

// counted are the revisions from Next on, up to Rev, counted one by one.
func counted(c cursor.Cursor, h api.Head, most int) int {
	n := 0
	if c.Dead || c.Next <= h.Hor || c.Next > h.Rev+1 {
		return n
	}
	for r := c.Next; r <= h.Rev && n < most; r++ {
		n++
	}
	return n
}

// All numbers that are near each other, round 0 and round the furthest ones.
func TestWindowInEveryWay(t *testing.T) {
	for _, base := range []int{0, 500, -big + 5, big - 5} {
		for next := base - 5; next <= base+5; next++ {
			for rev := base - 5; rev <= base+5; rev++ {
				for hor := base - 7; hor <= base+7; hor++ {
					for _, most := range []int{math.MinInt, -1, 0, 1, 2, 3, 10, 11, 12, big, math.MaxInt} {
						for _, once := range either {
							h := api.Head{Seq: most, Rev: rev, Hor: hor}
							c := of(key.One("k"), next, once)
							if got, want := cursor.Window(c, h, most), counted(c, h, most); got != want {
								t.Fatalf("Window(%v, %v, %d): %d, not %d", c, h, most, got, want)
							}
							if got := cursor.Window(dead(c), h, most); got != 0 {
								t.Fatalf("Window(%v, %v, %d): %d", dead(c), h, most, got)
							}
						}
					}
				}
			}
		}
	}
}

// All numbers that are far from each other.
func TestWindowOfFarNumbers(t *testing.T) {
	nums := []int{-big, -big + 1, -1001, -1, 0, 1, 1001, big - 1, big}
	hors := append([]int{math.MinInt, math.MinInt + 1, -big - 1, big + 1, math.MaxInt - 1, math.MaxInt}, nums...)
	for _, next := range nums {
		for _, rev := range nums {
			for _, hor := range hors {
				for _, most := range append(far(), 0, 1, 2, 2*big, 2*big+1, 2*big+2) {
					want := 0
					if next > hor && next <= rev+1 {
						want = max(0, min(most, rev-next+1))
					}
					c, h := of(all, next, false), head(rev, hor)
					if got := cursor.Window(c, h, most); got != want {
						t.Fatalf("Window(%v, %v, %d): %d, not %d", c, h, most, got, want)
					}
				}
			}
		}
	}
}

// P10.2: Deliver.

// three are three revisions' events, from 4 on: the second has none of b to c.
func three() [][]api.Event {
	return rows(
		events(was(4, "c", "1"), was(4, "b", "1"), was(4, "a", "1")),
		events(was(5, "a", "2"), gone(5, "d")),
		events(was(6, "b", "3"), gone(6, "a"), gone(6, "bb")),
	)
}

func TestDeliver(t *testing.T) {
	l := three()
	b1, bc := l[0][1], between("b", "c")
	bAll := rows(events(b1), events(was(6, "b", "3"), gone(6, "bb")))
	cases := []struct {
		name  string
		r     api.Range
		l     [][]api.Event
		every [][]api.Event // what is told without Once
		once  []api.Event   // and with it
	}{
		{"no rows", all, nil, nil, nil},
		{"no rows, empty", all, rows(), nil, nil},
		{"a row without events", all, rows(nil), nil, nil},
		{"rows without events", all, rows(nil, events(), nil), nil, nil},
		{"one row, all of it", all, l[:1], l[:1], events(was(4, "a", "1"), b1, was(4, "c", "1"))},
		{"one row, a part of it", bc, l[:1], rows(events(b1)), events(b1)},
		{"one row, nothing of it", bc, l[1:2], nil, nil},
		{"all of all", all, l, l, events(gone(6, "a"), was(6, "b", "3"), gone(6, "bb"), was(4, "c", "1"), gone(5, "d"))},
		{"all of all, by both ends", between("a", "d\x00"), l, l, events(gone(6, "a"), was(6, "b", "3"), gone(6, "bb"), was(4, "c", "1"), gone(5, "d"))},
		{"a part of some", bc, l, bAll, events(was(6, "b", "3"), gone(6, "bb"))},
		{"one key", key.One("b"), l, rows(events(b1), events(was(6, "b", "3"))), events(was(6, "b", "3"))},
		{"one key, deleted last", key.One("a"), l, rows(events(was(4, "a", "1")), events(was(5, "a", "2")), events(gone(6, "a"))), events(gone(6, "a"))},
		{"one key, deleted alone", key.One("d"), l, rows(events(gone(5, "d"))), events(gone(5, "d"))},
		{"one key, of the first row alone", key.One("c"), l, rows(events(was(4, "c", "1"))), events(was(4, "c", "1"))},
		{"nothing: above", between("e", ""), l, nil, nil},
		{"nothing: below", between("", "a"), l, nil, nil},
		{"nothing: To at From", between("b", "b"), l, nil, nil},
		{"nothing: To below From", between("c", "a"), l, nil, nil},
		{"from a text that is far longer than keys may be", between(long(), ""), l, nil, nil},
		{"below such a text", between("a", long()), l, l, events(gone(6, "a"), was(6, "b", "3"), gone(6, "bb"), was(4, "c", "1"), gone(5, "d"))},
		{"rows without events among others", bc, rows(nil, l[0], nil, nil, l[2], nil), bAll, events(was(6, "b", "3"), gone(6, "bb"))},
		{"put behind a deletion", key.One("a"), rows(l[2], l[1]), rows(events(gone(6, "a")), events(was(5, "a", "2"))), events(was(5, "a", "2"))},
		{"a key twice in one row", all, rows(events(was(4, "a", "1"), gone(4, "a"))), rows(events(was(4, "a", "1"), gone(4, "a"))), events(gone(4, "a"))},
		{"the same row twice", key.One("c"), rows(l[0], l[0]), rows(events(l[0][0]), events(l[0][0])), events(l[0][0])},
		{"the empty key", between("", "a"), rows(events(was(4, "", "x"), was(4, "a", "y"))), rows(events(was(4, "", "x"))), events(was(4, "", "x"))},
		{"longer keys and values than may be", between("k", "l"), rows(events(was(4, long(), long()))), rows(events(was(4, long(), long()))), events(was(4, long(), long()))},
	}
	for _, c := range cases {
		// The rows' own revisions play no part, nor does the head, once it doesn't refuse.
		for _, h := range []api.Head{head(6, 0), head(3, 3), head(100, 3), head(big, -big), {Seq: 9, Rev: 7, Hor: 1}} {
			upto := 3 + len(c.l)
			got, n := cursor.Deliver(of(c.r, 4, false), h, c.l)
			told(t, c.name, got, n, of(c.r, upto+1, false), cursor.Notice{Upto: upto, Rows: c.every})
			var once [][]api.Event
			if len(c.once) > 0 {
				once = rows(c.once)
			}
			got, n = cursor.Deliver(of(c.r, 4, true), h, c.l)
			told(t, c.name+", Once", got, n, of(c.r, upto+1, true), cursor.Notice{Upto: upto, Rows: once})
		}
	}
}

// A watch that isn't told anything is told why, and nothing else.
func TestDeliverRefuses(t *testing.T) {
	cases := []struct {
		name string
		c    cursor.Cursor
		h    api.Head
		err  api.Errno
	}{
		{"Dead", dead(of(all, 4, false)), head(6, 0), api.ErrNone},
		{"Dead, Once", dead(of(key.One("a"), 4, true)), head(6, 0), api.ErrNone},
		{"Dead, and old", dead(of(all, 4, false)), head(6, 5), api.ErrNone},
		{"Dead, and ahead", dead(of(all, 9, false)), head(6, 5), api.ErrNone},
		{"Dead, and all zero", cursor.Cursor{Dead: true}, api.Head{}, api.ErrNone},
		{"old by none", of(all, 4, false), head(6, 4), api.ErrOld},
		{"old by none, Once", of(key.One("a"), 4, true), head(6, 4), api.ErrOld},
		{"old by one", of(all, 4, false), head(6, 5), api.ErrOld},
		{"old, all told", of(all, 7, false), head(6, 7), api.ErrOld},
		{"far old", of(key.One("a"), -big, true), head(6, 4), api.ErrOld},
		{"the zero watch", cursor.Cursor{}, api.Head{}, api.ErrOld},
		{"old and ahead", of(all, 12, false), head(6, 12), api.ErrOld},
		{"old, the horizon below 0", of(all, -9, false), head(6, -8), api.ErrOld},
		{"old, the horizon far above", of(all, 4, false), head(6, math.MaxInt), api.ErrOld},
		{"ahead by two", of(all, 8, false), head(6, 0), api.ErrFuture},
		{"ahead by two, Once", of(key.One("a"), 8, true), head(6, 0), api.ErrFuture},
		{"ahead, just above the horizon", of(all, 8, false), head(6, 7), api.ErrFuture},
		{"far ahead", of(all, big, true), head(6, 4), api.ErrFuture},
		{"ahead of what is far below 0", of(all, -big+2, false), head(-big, -big), api.ErrFuture},
	}
	for _, c := range cases {
		for _, l := range [][][]api.Event{nil, rows(nil, nil), three()} {
			want := c.c
			n := cursor.Notice{Err: c.err}
			if c.err == api.ErrOld {
				want = dead(want)
				n.Hor = c.h.Hor
			}
			got, notice := cursor.Deliver(c.c, c.h, l)
			told(t, c.name, got, notice, want, n)
		}
	}
}

// By one it isn't ahead: there is just nothing yet.
func TestDeliverAheadByOne(t *testing.T) {
	for _, once := range either {
		c, n := cursor.Deliver(of(all, 7, once), head(6, 6), nil)
		told(t, "ahead by one", c, n, of(all, 7, once), cursor.Notice{Upto: 6})
		c, n = cursor.Deliver(of(all, 1, once), head(0, 0), nil)
		told(t, "of an empty map", c, n, of(all, 1, once), cursor.Notice{})
	}
}

// lists are all of so many at most, of those that are handed in.
func lists[T any](most int, of ...T) [][]T {
	every, row := [][]T{nil}, [][]T{nil}
	for range most {
		var next [][]T
		for _, l := range row {
			for _, x := range of {
				next = append(next, append(slices.Clone(l), x))
			}
		}
		every, row = append(every, next...), next
	}
	return every
}

// said is Deliver in the chapter's words.
func said(c cursor.Cursor, h api.Head, l [][]api.Event) (cursor.Cursor, cursor.Notice) {
	if c.Dead {
		return c, cursor.Notice{Err: api.ErrNone}
	}
	if c.Next <= h.Hor {
		return dead(c), cursor.Notice{Err: api.ErrOld, Hor: h.Hor}
	}
	if c.Next > h.Rev+1 {
		return c, cursor.Notice{Err: api.ErrFuture}
	}
	n := cursor.Notice{Upto: c.Next + len(l) - 1}
	for _, row := range l {
		if its := event.Filter(row, c.R); len(its) > 0 {
			n.Rows = append(n.Rows, its)
		}
	}
	if c.Once && len(n.Rows) > 0 {
		n.Rows = rows(event.Last(slices.Concat(n.Rows...)))
	}
	return at(c, n.Upto+1), n
}

// All lists of four rows at most, of all rows of some, to watches of all kinds.
func TestDeliverInEveryWay(t *testing.T) {
	some := rows(nil, events(was(1, "a", "v")), events(gone(2, "a"), was(2, "c", "v")), events(was(3, "b", "w"), was(3, "a", "w")), events(gone(4, "b")))
	ranges := []api.Range{all, key.One("a"), between("b", ""), between("a\x00", "b"), between("c", "b")}
	heads := []api.Head{head(5, 0), head(2, 2), head(1, 1), head(1, 0), head(9, 3), head(9, 4)}
	for _, l := range lists(4, some...) {
		for _, r := range ranges {
			for _, once := range either {
				for _, h := range heads {
					c := of(r, 3, once)
					want, n := said(c, h, l)
					got, notice := cursor.Deliver(c, h, l)
					told(t, "in every way", got, notice, want, n)
					want, n = said(dead(c), h, l)
					got, notice = cursor.Deliver(dead(c), h, l)
					told(t, "in every way, Dead", got, notice, want, n)
				}
			}
		}
	}
}

// Next and Rev as far as they are asked of, the horizon above and below both.
func TestDeliverOfFarNumbers(t *testing.T) {
	nums := []int{-big, -big + 1, -1001, -1, 0, 1, 1001, big - 1, big}
	hors := append([]int{math.MinInt, -big - 1, big + 1, math.MaxInt}, nums...)
	for _, next := range nums {
		for _, rev := range nums {
			for _, hor := range hors {
				for _, once := range either {
					c, h := of(key.One("a"), next, once), head(rev, hor)
					for _, l := range [][][]api.Event{nil, three()} {
						want, n := said(c, h, l)
						got, notice := cursor.Deliver(c, h, l)
						told(t, "far numbers", got, notice, want, n)
					}
				}
			}
		}
	}
}

// So many keys, and rows, that a map that is gone through as it comes would hardly ever tell them rising.
func TestDeliverOfManyKeys(t *testing.T) {
	var l [][]api.Event
	var want []api.Event
	for i := range 600 {
		l = append(l, events(was(i+1, string([]byte{byte(255 - i%256)}), "v")))
	}
	for b := range 256 {
		rev := 512 - b
		if b >= 256-(600-512) {
			rev = 768 - b
		}
		want = append(want, was(rev, string([]byte{byte(b)}), "v"))
	}
	c, n := cursor.Deliver(of(all, 1, true), head(600, 0), l)
	told(t, "Once", c, n, of(all, 601, true), cursor.Notice{Upto: 600, Rows: rows(want)})
	c, n = cursor.Deliver(of(all, 1, false), head(600, 0), l)
	told(t, "each", c, n, of(all, 601, false), cursor.Notice{Upto: 600, Rows: l})
}

// story is a map, and what it was told to do, of which nothing is left out.
type story struct {
	h    *hist.Hist
	rows [][]api.Event // that of the revision 1 is first
}

func begun(l ...[]api.Op) *story {
	s := &story{h: hist.New()}
	for _, o := range l {
		s.apply(o)
	}
	return s
}

func (s *story) apply(l []api.Op) {
	if row := s.h.Apply(l); len(row) > 0 {
		s.rows = append(s.rows, row)
	}
}

// compact lets the horizon be no lower, if there is such a revision.
func (s *story) compact(rev int) { s.h.Compact(rev) }

// between are the events of a range from one revision on, up to another one.
func (s *story) between(r api.Range, first, last int) []api.Event {
	return event.Filter(slices.Concat(s.rows[first-1:last]...), r)
}

// at is what a range has at a revision, whether it is told any more or not.
func (s *story) at(rev int, r api.Range) []api.KV {
	return event.Fold(nil, s.between(r, 1, rev))
}

// seven is of seven revisions: a stays, b is put twice and deleted, c is deleted and put again.
func seven(hor int) *story {
	s := begun(
		ops(put("c", "1"), put("a", "1")),
		ops(put("b", "2")),
		ops(del("c"), put("ab", "3")),
		ops(put("b", "4")),
		ops(put("c", "5"), del("ab")),
		ops(del("b")),
		ops(put("d", "7")),
	)
	s.compact(hor)
	return s
}

// P10.2: Poll.

func TestPoll(t *testing.T) {
	b := key.One("b")
	cases := []struct {
		name string
		c    cursor.Cursor
		hor  int
		most int
		to   cursor.Cursor
		want cursor.Notice
	}{
		{"one", of(all, 1, false), 0, 1, of(all, 2, false), cursor.Notice{Upto: 1, Rows: rows(events(was(1, "c", "1"), was(1, "a", "1")))}},
		{"two", of(all, 2, false), 0, 2, of(all, 4, false), cursor.Notice{Upto: 3, Rows: rows(events(was(2, "b", "2")), events(gone(3, "c"), was(3, "ab", "3")))}},
		{"all there are", of(b, 1, false), 0, 100, of(b, 8, false), cursor.Notice{Upto: 7, Rows: rows(events(was(2, "b", "2")), events(was(4, "b", "4")), events(gone(6, "b")))}},
		{"just as many", of(b, 4, false), 0, 4, of(b, 8, false), cursor.Notice{Upto: 7, Rows: rows(events(was(4, "b", "4")), events(gone(6, "b")))}},
		{"one less", of(b, 4, false), 0, 3, of(b, 7, false), cursor.Notice{Upto: 6, Rows: rows(events(was(4, "b", "4")), events(gone(6, "b")))}},
		{"far above", of(b, 5, false), 0, math.MaxInt, of(b, 8, false), cursor.Notice{Upto: 7, Rows: rows(events(gone(6, "b")))}},
		{"most 0", of(all, 4, false), 0, 0, of(all, 4, false), cursor.Notice{Upto: 3}},
		{"most -1", of(all, 4, false), 0, -1, of(all, 4, false), cursor.Notice{Upto: 3}},
		{"most far below 0", of(all, 1, true), 0, math.MinInt, of(all, 1, true), cursor.Notice{}},
		{"nothing of the range", of(b, 7, false), 0, 9, of(b, 8, false), cursor.Notice{Upto: 7}},
		{"nothing of the range, of some", of(key.One("d"), 1, false), 0, 6, of(key.One("d"), 7, false), cursor.Notice{Upto: 6}},
		{"none yet", of(all, 8, false), 0, 9, of(all, 8, false), cursor.Notice{Upto: 7}},
		{"a range that has none", of(between("c", "b"), 1, false), 0, 9, of(between("c", "b"), 8, false), cursor.Notice{Upto: 7}},
		{"Once", of(all, 1, true), 0, 4, of(all, 5, true), cursor.Notice{Upto: 4, Rows: rows(events(was(1, "a", "1"), was(3, "ab", "3"), was(4, "b", "4"), gone(3, "c")))}},
		{"Once, all", of(b, 1, true), 0, 100, of(b, 8, true), cursor.Notice{Upto: 7, Rows: rows(events(gone(6, "b")))}},
		{"Once, nothing of the range", of(b, 7, true), 0, 9, of(b, 8, true), cursor.Notice{Upto: 7}},
		{"compacted below", of(b, 4, false), 2, 1, of(b, 5, false), cursor.Notice{Upto: 4, Rows: rows(events(was(4, "b", "4")))}},
		{"compacted just below", of(b, 4, false), 3, 9, of(b, 8, false), cursor.Notice{Upto: 7, Rows: rows(events(was(4, "b", "4")), events(gone(6, "b")))}},
		{"compacted just below, Once", of(b, 4, true), 3, 9, of(b, 8, true), cursor.Notice{Upto: 7, Rows: rows(events(gone(6, "b")))}},
		{"compacted at", of(b, 4, false), 4, 9, dead(of(b, 4, false)), cursor.Notice{Err: api.ErrOld, Hor: 4}},
		{"compacted behind", of(b, 4, true), 7, 9, dead(of(b, 4, true)), cursor.Notice{Err: api.ErrOld, Hor: 7}},
		{"compacted behind, most 0", of(b, 4, false), 5, 0, dead(of(b, 4, false)), cursor.Notice{Err: api.ErrOld, Hor: 5}},
		{"all compacted", of(b, 8, false), 7, 9, of(b, 8, false), cursor.Notice{Upto: 7}},
		{"from 0 on", of(b, 0, false), 0, 9, dead(of(b, 0, false)), cursor.Notice{Err: api.ErrOld}},
		{"from below 0 on", of(b, -3, false), 0, 9, dead(of(b, -3, false)), cursor.Notice{Err: api.ErrOld}},
		{"ahead", of(b, 9, false), 0, 9, of(b, 9, false), cursor.Notice{Err: api.ErrFuture}},
		{"ahead, all compacted", of(b, 9, true), 7, 0, of(b, 9, true), cursor.Notice{Err: api.ErrFuture}},
		{"Dead", dead(of(b, 4, false)), 0, 9, dead(of(b, 4, false)), cursor.Notice{Err: api.ErrNone}},
		{"Dead, and old", dead(of(b, 4, true)), 7, 9, dead(of(b, 4, true)), cursor.Notice{Err: api.ErrNone}},
	}
	for _, c := range cases {
		s := seven(c.hor)
		got, n := cursor.Poll(c.c, s.h, c.most)
		told(t, c.name, got, n, c.to, c.want)
		if s.h.Rev() != 7 || s.h.Hor() != c.hor {
			t.Errorf("%s: the map is of %d, from %d on", c.name, s.h.Rev(), s.h.Hor())
		}
	}
}

// Every Next and most, at every horizon.
func TestPollInEveryWay(t *testing.T) {
	for hor := range 8 {
		s := seven(hor)
		h := api.Head{Rev: 7, Hor: hor}
		for _, r := range []api.Range{all, key.One("b"), between("ab", "c"), between("c", ""), between("e", "")} {
			for _, next := range append(far(), 0, 1, 2, 3, 4, 5, 6, 7, 8, 9) {
				for _, most := range append(far(), 0, 1, 2, 3, 4, 5, 6, 7, 8) {
					for _, once := range either {
						c := of(r, next, once)
						var l [][]api.Event
						if n := counted(c, h, most); n > 0 {
							l = s.rows[next-1:][:n]
						}
						want, n := said(c, h, l)
						got, notice := cursor.Poll(c, s.h, most)
						told(t, "in every way", got, notice, want, n)
						got, notice = cursor.Poll(dead(c), s.h, most)
						told(t, "in every way, Dead", got, notice, dead(c), cursor.Notice{Err: api.ErrNone})
					}
				}
			}
		}
	}
}

// A map that is nil has the revision 0, and the horizon 0, just as a new one.
func TestPollOfNoMap(t *testing.T) {
	for _, h := range []*hist.Hist{nil, hist.New()} {
		for _, once := range either {
			for _, most := range append(far(), 0, 1, 2) {
				c, n := cursor.Poll(of(all, 1, once), h, most)
				told(t, "from 1 on", c, n, of(all, 1, once), cursor.Notice{})
				c, n = cursor.Poll(of(all, 0, once), h, most)
				told(t, "from 0 on", c, n, dead(of(all, 0, once)), cursor.Notice{Err: api.ErrOld})
				c, n = cursor.Poll(of(all, -1, once), h, most)
				told(t, "from -1 on", c, n, dead(of(all, -1, once)), cursor.Notice{Err: api.ErrOld})
				c, n = cursor.Poll(of(all, 2, once), h, most)
				told(t, "from 2 on", c, n, of(all, 2, once), cursor.Notice{Err: api.ErrFuture})
				c, n = cursor.Poll(dead(of(all, 1, once)), h, most)
				told(t, "Dead", c, n, dead(of(all, 1, once)), cursor.Notice{Err: api.ErrNone})
			}
		}
	}
}

// The chapter's example: compacted behind what it wants, a watch is told so, once, and then nothing.
func TestPollAgainOnceOld(t *testing.T) {
	for _, once := range either {
		for _, hor := range []int{4, 5, 7} {
			s := seven(hor)
			c, n := cursor.Poll(of(all, 4, once), s.h, 9)
			told(t, "old", c, n, dead(of(all, 4, once)), cursor.Notice{Err: api.ErrOld, Hor: hor})
			for range 3 {
				c, n = cursor.Poll(c, s.h, 9)
				told(t, "again", c, n, dead(of(all, 4, once)), cursor.Notice{Err: api.ErrNone})
				s.apply(ops(put("a", "x")))
			}
			c, n = cursor.Poll(c, seven(0).h, 9)
			told(t, "of a map that has it", c, n, dead(of(all, 4, once)), cursor.Notice{Err: api.ErrNone})
		}
	}
}

// One that is ahead goes on, once there is what it wants.
func TestPollAgainOnceAhead(t *testing.T) {
	for _, once := range either {
		s := seven(0)
		c := of(key.Prefix("a"), 9, once)
		for range 3 {
			var n cursor.Notice
			c, n = cursor.Poll(c, s.h, 9)
			told(t, "ahead", c, n, of(key.Prefix("a"), 9, once), cursor.Notice{Err: api.ErrFuture})
		}
		s.apply(ops(put("a", "8")))
		c, n := cursor.Poll(c, s.h, 9)
		told(t, "ahead by one", c, n, of(key.Prefix("a"), 9, once), cursor.Notice{Upto: 8})
		s.apply(ops(put("a", "9"), put("b", "9")))
		c, n = cursor.Poll(c, s.h, 9)
		told(t, "not ahead", c, n, of(key.Prefix("a"), 10, once), cursor.Notice{Upto: 9, Rows: rows(events(was(9, "a", "9")))})
		s.compact(9)
		c, n = cursor.Poll(c, s.h, 9)
		told(t, "all told, and compacted", c, n, of(key.Prefix("a"), 10, once), cursor.Notice{Upto: 9})
	}
}

// P10.3: Open.

func TestOpen(t *testing.T) {
	ab := between("a", "b\x00")
	a, b := kv("a", "1", 1), kv("b", "4", 4)
	cases := []struct {
		name string
		hor  int
		r    api.Range
		rev  int
		next int
		want []api.KV
		err  api.Errno
	}{
		{"at the first one", 0, all, 1, 2, kvs(a, kv("c", "1", 1)), api.OK},
		{"at the last one", 0, all, 7, 8, kvs(a, kv("c", "5", 5), kv("d", "7", 7)), api.OK},
		{"at 0: the last one", 0, all, 0, 8, kvs(a, kv("c", "5", 5), kv("d", "7", 7)), api.OK},
		{"at 0, compacted", 5, ab, 0, 8, kvs(a), api.OK},
		{"at 0, all compacted", 7, ab, 0, 8, kvs(a), api.OK},
		{"between", 0, ab, 4, 5, kvs(a, kv("ab", "3", 3), b), api.OK},
		{"one above the horizon", 3, ab, 4, 5, kvs(a, kv("ab", "3", 3), b), api.OK},
		{"at the horizon", 4, ab, 4, 5, kvs(a, kv("ab", "3", 3), b), api.OK},
		{"one below the horizon", 5, ab, 4, 0, nil, api.ErrOld},
		{"far below the horizon", 7, ab, 1, 0, nil, api.ErrOld},
		{"at the horizon, the last one", 7, ab, 7, 8, kvs(a), api.OK},
		{"one below the last one, compacted", 7, ab, 6, 0, nil, api.ErrOld},
		{"one above the last one", 0, ab, 8, 0, nil, api.ErrFuture},
		{"one above the last one, compacted", 7, ab, 8, 0, nil, api.ErrFuture},
		{"far above", 0, all, math.MaxInt, 0, nil, api.ErrFuture},
		{"below 0", 0, all, -1, 0, nil, api.ErrOld},
		{"below 0, compacted", 3, all, -1, 0, nil, api.ErrOld},
		{"far below 0", 0, all, math.MinInt, 0, nil, api.ErrOld},
		{"a range that has none there", 0, key.One("b"), 6, 7, nil, api.OK},
		{"a range that has none at all", 0, between("x", ""), 4, 5, nil, api.OK},
		{"To at From", 0, between("a", "a"), 4, 5, nil, api.OK},
		{"To below From", 0, between("b", "a"), 4, 5, nil, api.OK},
		{"ends that are far longer than may be", 0, between(long(), long()+"k"), 4, 5, nil, api.OK},
		{"one key", 0, key.One("b"), 5, 6, kvs(b), api.OK},
	}
	for _, c := range cases {
		s := seven(c.hor)
		got, l, err := cursor.Open(s.h, c.r, c.rev)
		want := of(c.r, c.next, false)
		if c.err != api.OK {
			want = cursor.Cursor{}
		}
		if got != want || !slices.Equal(l, c.want) || err != c.err {
			t.Errorf("%s: Open: %s, %v, %d", c.name, brief(got), l, err)
		}
		if s.h.Rev() != 7 || s.h.Hor() != c.hor {
			t.Errorf("%s: the map is of %d, from %d on", c.name, s.h.Rev(), s.h.Hor())
		}
	}
}

// Every revision at every horizon: hist.At's answers.
func TestOpenInEveryWay(t *testing.T) {
	for hor := range 8 {
		s := seven(hor)
		for _, r := range []api.Range{all, key.One("b"), between("ab", "c"), between("c", ""), between("c", "a")} {
			for _, rev := range append(far(), 0, 1, 2, 3, 4, 5, 6, 7, 8, 9) {
				asked := rev
				if rev == 0 {
					asked = 7
				}
				m, e := s.h.At(asked, r)
				want := cursor.Cursor{}
				if e == api.OK {
					want = of(r, asked+1, false)
				}
				if got, l, err := cursor.Open(s.h, r, rev); got != want || !slices.Equal(l, m) || err != e {
					t.Fatalf("the horizon %d: Open(%q, %d): %v, %v, %d", hor, r, rev, got, l, err)
				}
			}
		}
	}
}

func TestOpenOfNoMap(t *testing.T) {
	for _, rev := range append(far(), 0, 1) {
		if c, l, err := cursor.Open(nil, key.One("a"), rev); c != (cursor.Cursor{}) || len(l) != 0 || err != api.ErrArg {
			t.Errorf("Open of nil, at %d: %v, %v, %d", rev, c, l, err)
		}
		want, e := cursor.Cursor{}, api.ErrFuture
		if rev < 0 {
			e = api.ErrOld
		}
		if rev == 0 {
			want, e = of(key.One("a"), 1, false), api.OK
		}
		if c, l, err := cursor.Open(hist.New(), key.One("a"), rev); c != want || len(l) != 0 || err != e {
			t.Errorf("Open of a new one, at %d: %v, %v, %d", rev, c, l, err)
		}
	}
}

// P10.3: Token and Resume.

func TestTokenAndResume(t *testing.T) {
	ranges := []api.Range{all, key.One("12345678"), between("a", ""), between("", "b"), between("b", "a"), between(long(), long())}
	for _, r := range ranges {
		for _, next := range append(far(), 0, 1, 2, 5, 255, 256, 1000, 1001) {
			for _, once := range either {
				c := of(r, next, once)
				want := token.Token{R: r, Next: next, Once: once}
				if got := cursor.Token(c); got != want {
					t.Errorf("Token(%s): %s", brief(c), brief(got))
				}
				if got := cursor.Token(dead(c)); got != want {
					t.Errorf("Token of a Dead one, %s: %s", brief(c), brief(got))
				}
				if got := cursor.Resume(want); got != c {
					t.Errorf("Resume(%s): %s", brief(want), brief(got))
				}
				if got := cursor.Token(cursor.Resume(want)); got != want {
					t.Errorf("there and back: %s, from %s", brief(got), brief(want))
				}
			}
		}
	}
	if got := cursor.Token(cursor.Cursor{}); got != (token.Token{}) {
		t.Errorf("Token of the zero watch: %v", got)
	}
	if got := cursor.Resume(token.Token{}); got != (cursor.Cursor{}) {
		t.Errorf("Resume of the zero token: %v", got)
	}
}

// A watch that was told that it is old isn't Dead once it is resumed; it is told so again, once.
func TestResumeOfADeadOne(t *testing.T) {
	s := seven(5)
	c, _ := cursor.Poll(of(all, 5, true), s.h, 1)
	c = cursor.Resume(cursor.Token(c))
	c, n := cursor.Poll(c, s.h, 1)
	told(t, "resumed", c, n, dead(of(all, 5, true)), cursor.Notice{Err: api.ErrOld, Hor: 5})
	c, n = cursor.Poll(c, s.h, 1)
	told(t, "polled again", c, n, dead(of(all, 5, true)), cursor.Notice{Err: api.ErrNone})
}

// P10.4.

// watcher is a watch, with what there was as it was opened, and all that it was told since.
type watcher struct {
	c     cursor.Cursor
	first int // the first revision that it wants
	base  []api.KV
	told  []api.Event
	ended bool // it was told that it is old
}

func watched(t *testing.T, s *story, r api.Range, rev int, once bool) *watcher {
	t.Helper()
	c, m, err := cursor.Open(s.h, r, rev)
	if err != api.OK {
		t.Fatalf("Open(%q, %d): %d", r, rev, err)
	}
	c.Once = once
	if !slices.Equal(m, s.at(c.Next-1, r)) {
		t.Fatalf("Open(%q, %d): %v", r, rev, m)
	}
	return &watcher{c: c, first: c.Next, base: m}
}

// poll polls a watch, and tells whether what it was told is as the chapter says.
func (w *watcher) poll(s *story, most int) bool {
	next := w.c.Next
	c, n := cursor.Poll(w.c, s.h, most)
	w.c = c
	if w.ended {
		return n.Err == api.ErrNone && nothing(n) && n.Hor == 0 && c.Dead
	}
	if next <= s.h.Hor() {
		w.ended = true
		return n.Err == api.ErrOld && nothing(n) && n.Hor == s.h.Hor() && c.Dead
	}
	upto := next - 1 + min(len(s.rows)-(next-1), max(most, 0))
	if n.Err != api.OK || n.Hor != 0 || n.Upto != upto || c.Next != upto+1 || c.Dead {
		return false
	}
	w.told = append(w.told, slices.Concat(n.Rows...)...)
	return w.fits(n.Rows, s.between(w.c.R, next, upto)) && w.folds(s, upto)
}

func nothing(n cursor.Notice) bool { return n.Upto == 0 && len(n.Rows) == 0 }

// fits tells whether rows are made of just these events: a row each revision, or, with Once, one of each key's last.
func (w *watcher) fits(l [][]api.Event, of []api.Event) bool {
	if !w.c.Once {
		return sameRows(l, event.Cut(of))
	}
	if len(of) == 0 {
		return len(l) == 0
	}
	return len(l) == 1 && slices.Equal(l[0], event.Last(of))
}

// folds tells whether all that was told makes of what there was what there is; without Once that is all events there were.
func (w *watcher) folds(s *story, upto int) bool {
	if !w.c.Once && !slices.Equal(w.told, s.between(w.c.R, w.first, upto)) {
		return false
	}
	return slices.Equal(event.Fold(w.base, w.told), s.at(upto, w.c.R))
}

// across lets a watch go on by its token, as bytes, if it may be.
func (w *watcher) across() bool {
	if w.ended {
		return true
	}
	k, err := cursor.Token(w.c), api.OK
	if token.May(k) {
		k, err = token.Take(token.Put(k))
	}
	was := w.c
	w.c = cursor.Resume(k)
	return err == api.OK && w.c == was
}

// steps are all that may be done on a way, of one watch.
const steps = "pqdxoceft12a"

// step does one of them, and tells whether what the watch was told is as the chapter says.
func step(s *story, w *watcher, what byte) bool {
	switch what {
	case 'p': // what it wants
		s.apply(ops(put("b", "v")))
	case 'q': // what it wants, and what not
		s.apply(ops(put("c", "w"), put("b", "w"), put("bb", "w")))
	case 'd':
		s.apply(ops(del("b")))
	case 'x':
		s.apply(ops(del("bb"), del("b"), put("c", "v")))
	case 'o': // what it doesn't want
		s.apply(ops(put("a", "v")))
	case 'c': // below what it wants
		s.compact(w.c.Next - 1)
	case 'e': // at what it wants
		s.compact(w.c.Next)
	case 'f':
		s.compact(s.h.Rev())
	case 't':
		return w.across()
	case '1':
		return w.poll(s, 1)
	case '2':
		return w.poll(s, 2)
	case 'a':
		return w.poll(s, api.MaxRev)
	}
	return true
}

// All ways of four steps, and a poll behind them, from each revision of a map on.
func TestWatchedInEveryWay(t *testing.T) {
	ways := lists(4, []byte(steps)...)
	for _, once := range either {
		for rev := range 3 {
			for _, way := range ways {
				s := begun(ops(put("b", "1"), put("a", "1")), ops(put("bb", "2")))
				w := watched(t, s, between("b", "c"), rev, once)
				for _, what := range append(slices.Clone(way), '1', 'a', 'a') {
					if !step(s, w, what) {
						t.Fatalf("Once %v, from %d on, by %q: at %q the watch is %v, told %v", once, rev, way, what, w.c, w.told)
					}
				}
			}
		}
	}
}

// Long ways of many watches at once, of many ranges, of which some are opened late, and some are slow.
func TestManyWatched(t *testing.T) {
	ranges := []api.Range{all, key.One("b"), key.Prefix("b"), between("", "b"), between("ba", ""), between("c", "b"), between("x", "")}
	keys := []string{"a", "b", "ba", "bb", "c", "\xff"}
	for seed := range 12 {
		s := begun(ops(put("a", "0"), put("b", "0")))
		x := uint32(seed)
		pick := func(n int) int {
			x = x*1664525 + 1013904223
			return int(x>>16) % n
		}
		var l []*watcher
		ended, lived := 0, 0
		for i := range 600 {
			switch pick(6) {
			case 0, 1:
				s.apply(ops(put(keys[pick(6)], string([]byte{byte(i)})), put(keys[pick(6)], "v")))
			case 2:
				s.apply(ops(del(keys[pick(6)]), put(keys[pick(6)], "w"), del(keys[pick(6)])))
			case 3:
				if i%7 == seed%7 {
					s.compact(s.h.Rev() - pick(8))
				}
			case 4:
				rev := s.h.Hor() + pick(s.h.Rev()-s.h.Hor()+1)
				l = append(l, watched(t, s, ranges[pick(7)], rev, pick(2) == 0))
			}
			for at, w := range l {
				if pick(3) == 0 && !w.poll(s, pick(at%9+2)) || pick(5) == 0 && !w.across() {
					t.Fatalf("seed %d, step %d: the watch is %v, told %v", seed, i, w.c, w.told)
				}
			}
		}
		for _, w := range l {
			if !w.poll(s, math.MaxInt) {
				t.Fatalf("seed %d, the last poll: the watch is %v, told %v", seed, w.c, w.told)
			}
			if w.ended {
				ended++
			} else {
				lived++
			}
		}
		if ended == 0 || lived == 0 {
			t.Errorf("seed %d: %d watches ended, %d lived", seed, ended, lived)
		}
	}
}

// A watch that is told all at once, and one that is told one by one, are told the same.
func TestAllAtOnceAndOneByOne(t *testing.T) {
	for most := 1; most < 9; most++ {
		s := seven(0)
		atOnce, byFew := watched(t, s, key.Prefix("a"), 1, false), watched(t, s, key.Prefix("a"), 1, false)
		if !atOnce.poll(s, 100) {
			t.Errorf("all at once: %v", atOnce.told)
		}
		for range 7 {
			if !byFew.poll(s, most) || !byFew.across() {
				t.Errorf("by %d: %v", most, byFew.told)
			}
		}
		if !slices.Equal(atOnce.told, byFew.told) || len(atOnce.told) != 2 || atOnce.c != byFew.c {
			t.Errorf("by %d: %v, not %v", most, byFew.told, atOnce.told)
		}
	}
}

// R3: what is handed in stays as it is, and what is told is the caller's own.

func TestWhatIsHandedInStays(t *testing.T) {
	for _, once := range either {
		l, was := three(), three()
		c := of(all, 4, once)
		_, n := cursor.Deliver(c, head(6, 0), l)
		for _, row := range n.Rows {
			for i := range row {
				row[i] = api.Event{Key: "changed"}
			}
			_ = append(row[:0], make([]api.Event, cap(row))...)
		}
		if !sameRows(l, was) || c != of(all, 4, once) {
			t.Errorf("Once %v: what was handed in is %v", once, l)
		}
		_, n = cursor.Deliver(c, head(6, 0), l)
		want := slices.Clone(n.Rows)
		for i := range want {
			want[i] = slices.Clone(want[i])
		}
		for _, row := range l {
			clear(row)
		}
		clear(l)
		if !sameRows(n.Rows, want) {
			t.Errorf("Once %v: what was told is %v", once, n.Rows)
		}
	}
}

// Rows that are told share nothing with each other, even behind their ends.
func TestRowsAreApart(t *testing.T) {
	_, n := cursor.Deliver(of(all, 4, false), head(6, 0), three())
	for i := range n.Rows {
		_ = append(n.Rows[i], make([]api.Event, cap(n.Rows[i])-len(n.Rows[i]))...)
		if !sameRows(n.Rows, three()) {
			t.Errorf("once the row %d grew: %v", i, n.Rows)
		}
	}
}

func TestWhatIsToldIsTheCallers(t *testing.T) {
	s := seven(2)
	for _, once := range either {
		_, want := cursor.Poll(of(all, 3, once), s.h, 9)
		_, n := cursor.Poll(of(all, 3, once), s.h, 9)
		for _, row := range n.Rows {
			clear(row)
		}
		clear(n.Rows)
		c, n := cursor.Poll(of(all, 3, once), s.h, 9)
		told(t, "polled again", c, n, of(all, 8, once), want)
	}
	_, l, _ := cursor.Open(s.h, all, 4)
	clear(l)
	if _, l, _ = cursor.Open(s.h, all, 4); !slices.Equal(l, s.at(4, all)) {
		t.Errorf("opened again: %v", l)
	}
}

// A watch that is polled twice as it was is told the same twice: nothing is kept beside it.
func TestNothingIsKept(t *testing.T) {
	s := seven(0)
	c := of(between("b", "d"), 2, false)
	to, want := cursor.Poll(c, s.h, 3)
	for range 3 {
		cursor.Poll(of(all, 1, true), s.h, 1)
		cursor.Open(s.h, all, 0)
		got, n := cursor.Poll(c, s.h, 3)
		told(t, "as it was", got, n, to, want)
	}
	s.apply(ops(put("b", "8")))
	got, n := cursor.Poll(c, s.h, 3)
	told(t, "changed behind it", got, n, to, want)
}

// P1: no call panics, at all arguments.
func TestNoCallPanics(t *testing.T) {
	nums := append(far(), 0, 1, 2, 3, 8, 9)
	maps := []*hist.Hist{nil, hist.New(), seven(0).h, seven(3).h, seven(7).h}
	ranges := []api.Range{all, between("b", "a"), between(long(), ""), between("", long())}
	for _, r := range ranges {
		for _, next := range nums {
			for _, other := range nums {
				c := of(r, next, next%2 == 0)
				for _, hor := range nums {
					cursor.Window(c, head(other, hor), hor)
					cursor.Window(c, head(hor, other), next)
					cursor.Deliver(c, head(other, hor), three())
					cursor.Deliver(dead(c), head(other, hor), nil)
				}
				for _, h := range maps {
					cursor.Poll(c, h, other)
					cursor.Poll(dead(c), h, other)
					cursor.Open(h, r, other)
				}
				cursor.Resume(cursor.Token(c))
			}
		}
	}
}
