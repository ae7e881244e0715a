package front_test

import (
	"fmt"
	"math"
	"reflect"
	"slices"
	"strings"
	"testing"

	"impost/api"
	"impost/event"
	"impost/front"
	"impost/key"
	"impost/model"
	"impost/txn"
)

func put(k, v string) api.Op { return api.Op{Key: k, Val: v} }

func del(k string) api.Op { return api.Op{Key: k, Del: true} }

func ops(l ...api.Op) []api.Op { return l }

// has asks whether a key has a value, at whether it was put at a revision.
func has(k, v string) api.Cmp { return api.Cmp{Kind: 1, Key: k, Val: v} }

func at(k string, rev int) api.Cmp { return api.Cmp{Kind: 2, Key: k, Rev: rev} }

func cmps(l ...api.Cmp) []api.Cmp { return l }

func kv(k, v string, rev int) api.KV { return api.KV{Key: k, Val: v, Rev: rev} }

func kvs(l ...api.KV) []api.KV { return l }

// sets and drops are events: of a key that is put, and that is deleted.
func sets(rev int, k, v string) api.Event { return api.Event{Rev: rev, Key: k, Val: v} }

func drops(rev int, k string) api.Event { return api.Event{Rev: rev, Key: k, Del: true} }

func rows(l ...api.Event) []api.Event { return l }

// of is a transaction, does one that compares nothing, reads a range, compacts a compaction.
func of(c []api.Cmp, then, other []api.Op) api.Req {
	return api.Req{Kind: api.ReqTxn, Cmps: c, Then: then, Else: other}
}

func does(l ...api.Op) api.Req { return of(nil, l, nil) }

func reads(r api.Range, rev int) api.Req { return api.Req{Kind: api.ReqRange, R: r, Rev: rev} }

func compacts(rev int) api.Req { return api.Req{Kind: api.ReqCompact, Rev: rev} }

// all is the range that has every key.
var all = api.Range{}

func head(seq, rev, hor int) api.Head { return api.Head{Seq: seq, Rev: rev, Hor: hor} }

// least and most are the ends of the numbers that a head may have.
const (
	least = -1 << 40
	most  = 1 << 40
)

// numbers are those at and beside the ends, the limits, 0 and 1; far are those that no head has.
func numbers() []int {
	return []int{least, least + 1, -1000, -17, -16, -15, -2, -1, 0, 1, 2, 15, 16, 17, 983, 984, 985, 999, 1000, 1001, 1 << 20, most - 1, most}
}

func far() []int { return []int{math.MinInt, math.MinInt + 1, math.MaxInt - 1, math.MaxInt} }

// errs are all errors, and none.
func errs() []api.Errno {
	return []api.Errno{
		api.OK, api.ErrArg, api.ErrForm, api.ErrFull, api.ErrNone, api.ErrOld, api.ErrFuture, api.ErrMem, api.ErrBusy, api.ErrOver,
	}
}

// long is a text that is far longer than any key or value may be.
func long() string { return strings.Repeat("k", 1<<16) }

// same and told are plans, and answers, that are the same, nil and empty lists being the same.
func same(a, b front.Plan) bool {
	return a.Ok == b.Ok && a.Err == b.Err && a.Hor == b.Hor && slices.Equal(a.Rows, b.Rows)
}

func told(a, b api.Resp) bool {
	return a.H == b.H && a.Err == b.Err && a.Ok == b.Ok && slices.Equal(a.L, b.L)
}

// brief is how something is told in a failure, cut where it is long.
func brief(x any) string {
	s := fmt.Sprintf("%+q", fmt.Sprintf("%v", x))
	return s[:min(len(s), 300)]
}

// decided, stepped, answered, revision and read are the chapter's words, without what the program is made of.
func decided(q api.Req, m []api.KV, h api.Head) front.Plan {
	if q.Kind == 3 && q.Rev > h.Rev {
		return front.Plan{Err: api.ErrFuture}
	}
	if q.Kind == 3 {
		return front.Plan{Hor: q.Rev}
	}
	if q.Kind != 1 {
		return front.Plan{}
	}
	ok, l := planned(m, q)
	p := front.Plan{Ok: ok}
	for _, o := range l {
		e := sets(h.Rev+1, o.Key, o.Val)
		if o.Del {
			e = drops(h.Rev+1, o.Key)
		}
		p.Rows = append(p.Rows, e)
	}
	if len(l) > 0 && h.Rev >= 1000 {
		return front.Plan{Err: api.ErrOver}
	}
	if len(l) > 0 && h.Rev+1 > h.Hor+16 {
		return front.Plan{Err: api.ErrFull}
	}
	return p
}

func planned(m []api.KV, q api.Req) (bool, []api.Op) {
	there := func(k string) int { return slices.IndexFunc(m, func(x api.KV) bool { return x.Key == k }) }
	ok := true
	for _, c := range q.Cmps {
		i := there(c.Key)
		switch {
		case c.Kind == 1:
			ok = ok && i >= 0 && m[i].Val == c.Val
		case c.Kind == 2 && c.Rev == 0:
			ok = ok && i < 0
		case c.Kind == 2:
			ok = ok && i >= 0 && m[i].Rev == c.Rev
		default:
			ok = false
		}
	}
	l := q.Else
	if ok {
		l = q.Then
	}
	var left []api.Op
	for _, o := range l {
		if !o.Del || there(o.Key) >= 0 {
			left = append(left, o)
		}
	}
	return ok, left
}

func stepped(h api.Head, p front.Plan) api.Head {
	next := head(h.Seq+1, h.Rev, h.Hor)
	if len(p.Rows) != 0 {
		next.Rev = h.Rev + 1
	}
	if p.Hor > h.Hor {
		next.Hor = p.Hor
	}
	return next
}

func answered(h api.Head, p front.Plan) api.Resp {
	return api.Resp{H: h, Err: p.Err, Ok: p.Ok && p.Err == api.OK}
}

func revision(q api.Req, h api.Head) (int, api.Errno) {
	rev := q.Rev
	if q.Rev == 0 {
		rev = h.Rev
	}
	switch {
	case rev < h.Hor:
		return 0, api.ErrOld
	case rev > h.Rev:
		return 0, api.ErrFuture
	}
	return rev, api.OK
}

func read(q api.Req, m []api.KV, h api.Head) api.Resp {
	_, err := revision(q, h)
	if err != api.OK {
		m = nil
	}
	return api.Resp{H: h, Err: err, L: m}
}

// decides looks that a plan is just so.
func decides(t *testing.T, name string, q api.Req, m []api.KV, h api.Head, want front.Plan) {
	t.Helper()
	if p := front.Decide(q, m, h); !same(p, want) {
		t.Errorf("%s: Decide(%s, %s, %v): %s, not %s", name, brief(q), brief(m), h, brief(p), brief(want))
	}
}

// some is a map of the revision 7.
func some() []api.KV { return kvs(kv("a", "x", 1), kv("b", "y", 7), kv("c", "", 3)) }

// own are those of a map's keys that a request asks of.
func own(m []api.KV, q api.Req) []api.KV {
	var l []api.KV
	for _, x := range m {
		if slices.Contains(txn.Keys(q), x.Key) {
			l = append(l, x)
		}
	}
	return l
}

// P13.1: transactions.

func TestDecideTxn(t *testing.T) {
	holds, fails := cmps(has("a", "x"), at("b", 7), at("z", 0)), cmps(has("a", "x"), at("b", 6), at("z", 0))
	change := ops(put("a", "1"), del("b"), put("n", "2"))
	done := rows(sets(8, "a", "1"), drops(8, "b"), sets(8, "n", "2"))
	idle := ops(del("n"), del("z"))
	cases := []struct {
		name string
		q    api.Req
		want front.Plan
	}{
		{"compares hold, what changes something", of(holds, change, idle), front.Plan{Ok: true, Rows: done}},
		{"compares hold, what changes nothing", of(holds, idle, change), front.Plan{Ok: true}},
		{"compares hold, without any", of(holds, nil, change), front.Plan{Ok: true}},
		{"compares don't hold, what changes something", of(fails, idle, change), front.Plan{Rows: done}},
		{"compares don't hold, what changes nothing", of(fails, change, idle), front.Plan{}},
		{"compares don't hold, without any", of(fails, change, nil), front.Plan{}},
		{"no compares, what changes something", of(nil, change, nil), front.Plan{Ok: true, Rows: done}},
		{"no compares, what changes nothing", of(nil, idle, change), front.Plan{Ok: true}},
		{"nothing at all", of(nil, nil, nil), front.Plan{Ok: true}},
		{"a put of what is there", does(put("a", "x")), front.Plan{Ok: true, Rows: rows(sets(8, "a", "x"))}},
		{"a put without a value", does(put("a", "")), front.Plan{Ok: true, Rows: rows(sets(8, "a", ""))}},
		{"a put of what isn't there", does(put("n", "")), front.Plan{Ok: true, Rows: rows(sets(8, "n", ""))}},
		{"a deletion", does(del("b")), front.Plan{Ok: true, Rows: rows(drops(8, "b"))}},
		{"a deletion of what has no value", does(del("c")), front.Plan{Ok: true, Rows: rows(drops(8, "c"))}},
		{"a deletion of what isn't there", does(del("n")), front.Plan{Ok: true}},
		{"one that changes nothing among others", does(del("n"), put("c", "1"), del("z"), del("a")),
			front.Plan{Ok: true, Rows: rows(sets(8, "c", "1"), drops(8, "a"))}},
		{"in turn, not by keys", does(put("z", "1"), put("a", "2"), del("c"), put("b", "3")),
			front.Plan{Ok: true, Rows: rows(sets(8, "z", "1"), sets(8, "a", "2"), drops(8, "c"), sets(8, "b", "3"))}},
		{"in turn, not by their lengths", does(put("long", "1"), put("", "2"), put("nn", "longer"), del("a")),
			front.Plan{Ok: true, Rows: rows(sets(8, "long", "1"), sets(8, "", "2"), sets(8, "nn", "longer"), drops(8, "a"))}},
		{"puts behind deletions, and ahead of them", does(del("c"), put("n", "1"), del("a"), put("b", "1")),
			front.Plan{Ok: true, Rows: rows(drops(8, "c"), sets(8, "n", "1"), drops(8, "a"), sets(8, "b", "1"))}},
		{"a swap that holds", txn.Swap("a", "x", "y"), front.Plan{Ok: true, Rows: rows(sets(8, "a", "y"))}},
		{"a swap that doesn't", txn.Swap("a", "y", "x"), front.Plan{}},
		{"a swap of what isn't there", txn.Swap("n", "", "x"), front.Plan{}},
	}
	for _, c := range cases {
		decides(t, c.name, c.q, some(), head(9, 7, 2), c.want)
		decides(t, c.name+", of its keys alone", c.q, own(some(), c.q), head(9, 7, 2), c.want)
	}
}

// Decide is of any request: also of those that may not be.
func TestDecideOfWhatMayNotBe(t *testing.T) {
	cases := []struct {
		name string
		q    api.Req
		want front.Plan
	}{
		{"a deletion with a value", does(api.Op{Key: "a", Val: "x", Del: true}), front.Plan{Ok: true, Rows: rows(drops(8, "a"))}},
		{"one of what isn't there", does(api.Op{Key: "n", Val: "x", Del: true}), front.Plan{Ok: true}},
		{"two of one key", does(put("a", "1"), del("a"), put("a", "2")),
			front.Plan{Ok: true, Rows: rows(sets(8, "a", "1"), drops(8, "a"), sets(8, "a", "2"))}},
		{"an empty key", does(put("", "1")), front.Plan{Ok: true, Rows: rows(sets(8, "", "1"))}},
		{"long texts", does(put(long(), long())), front.Plan{Ok: true, Rows: rows(sets(8, long(), long()))}},
		{"a compare of the Kind 0", of(cmps(api.Cmp{Key: "a", Val: "x"}), ops(put("a", "1")), nil), front.Plan{}},
		{"a compare of the Kind 3", of(cmps(api.Cmp{Kind: 3, Key: "a", Val: "x"}), nil, ops(del("a"))), front.Plan{Rows: rows(drops(8, "a"))}},
		{"a Rev below 0", of(cmps(at("n", -1)), nil, ops(del("a"))), front.Plan{Rows: rows(drops(8, "a"))}},
	}
	for _, c := range cases {
		decides(t, c.name, c.q, some(), head(9, 7, 2), c.want)
	}
	q, want := does(), front.Plan{Ok: true}
	for i := range 5000 {
		k := string([]byte{byte(i >> 8), byte(i)})
		q.Then = append(q.Then, put(k, "v"))
		want.Rows = append(want.Rows, sets(8, k, "v"))
	}
	decides(t, "far more ops than there may be", q, some(), head(9, 7, 2), want)
}

// What the Kind doesn't use plays no part.
func TestDecideTxnAlone(t *testing.T) {
	for _, rev := range slices.Concat(numbers(), far()) {
		q := does(put("a", "1"))
		q.Rev, q.R = rev, api.Range{From: "x", To: "b"}
		decides(t, "with a Rev, and an R", q, some(), head(9, 7, 2), front.Plan{Ok: true, Rows: rows(sets(8, "a", "1"))})
	}
}

func TestDecideEventsOfTheNextRevision(t *testing.T) {
	q := does(put("a", "1"), put("n", "2"), del("c"))
	for _, rev := range numbers() {
		for _, seq := range numbers() {
			if rev < 1000 {
				want := front.Plan{Ok: true, Rows: rows(sets(rev+1, "a", "1"), sets(rev+1, "n", "2"), drops(rev+1, "c"))}
				decides(t, "with room", q, some(), head(seq, rev, rev), want)
				decides(t, "with just as much room", q, some(), head(seq, rev, rev-15), want)
			}
		}
	}
}

// P13.1: no room.

func TestDecideOver(t *testing.T) {
	cases := []struct {
		rev int
		err api.Errno
	}{
		{0, api.OK}, {1, api.OK}, {998, api.OK}, {999, api.OK}, {1000, api.ErrOver}, {1001, api.ErrOver}, {1002, api.ErrOver},
		{1 << 20, api.ErrOver}, {most - 1, api.ErrOver}, {most, api.ErrOver},
	}
	for _, c := range cases {
		for _, hor := range []int{c.rev - 15, c.rev - 1, c.rev, c.rev + 1} {
			want := front.Plan{Ok: true, Rows: rows(sets(c.rev+1, "a", "1"))}
			if c.err != api.OK {
				want = front.Plan{Err: c.err}
			}
			decides(t, "with room in the ring", does(put("a", "1")), some(), head(9, c.rev, hor), want)
		}
	}
}

func TestDecideFull(t *testing.T) {
	for _, hor := range []int{least, -1000, -17, -16, -1, 0, 1, 2, 100, 982, 983} {
		for above := -3; above <= 40; above++ {
			rev := hor + above - 1
			want := front.Plan{Ok: true, Rows: rows(drops(rev+1, "b"))}
			if above > 16 {
				want = front.Plan{Err: api.ErrFull}
			}
			if rev < 1000 && rev >= least {
				decides(t, fmt.Sprintf("a revision %d above the horizon", above), does(del("b")), some(), head(9, rev, hor), want)
			}
		}
	}
	decides(t, "far above", does(del("b")), some(), head(9, 999, least), front.Plan{Err: api.ErrFull})
	decides(t, "far below", does(del("b")), some(), head(9, least, most), front.Plan{Ok: true, Rows: rows(drops(least+1, "b"))})
}

// Both at once: the error that is named first.
func TestDecideOverAheadOfFull(t *testing.T) {
	cases := []struct {
		rev, hor int
		err      api.Errno
	}{
		{999, 984, api.OK}, {999, 983, api.ErrFull}, {1000, 985, api.ErrOver}, {1000, 984, api.ErrOver}, {1000, 0, api.ErrOver},
		{1001, 985, api.ErrOver}, {1001, 986, api.ErrOver}, {most, least, api.ErrOver}, {most, most, api.ErrOver},
	}
	for _, c := range cases {
		p := front.Decide(does(put("n", "1")), some(), head(9, c.rev, c.hor))
		if p.Err != c.err {
			t.Errorf("of the revision %d, and the horizon %d: %v, not %v", c.rev, c.hor, p.Err, c.err)
		}
	}
}

// heads are such as there is room behind, and such as there is none, with the error.
func heads() map[api.Head]api.Errno {
	return map[api.Head]api.Errno{
		head(0, 0, 0):            api.OK,
		head(15, 15, 0):          api.OK,
		head(16, 16, 0):          api.ErrFull,
		head(17, 16, 1):          api.OK,
		head(1999, 999, 984):     api.OK,
		head(1999, 999, 983):     api.ErrFull,
		head(2000, 1000, 1000):   api.ErrOver,
		head(2000, 1000, 984):    api.ErrOver,
		head(2000, 1000, 0):      api.ErrOver,
		head(most, most, least):  api.ErrOver,
		head(least, 500, least):  api.ErrFull,
		head(least, least, most): api.OK,
	}
}

// What is refused has nothing but its error, whether its compares hold or not.
func TestDecideRefused(t *testing.T) {
	holds, fails := cmps(has("a", "x")), cmps(has("a", "y"))
	for h, err := range heads() {
		for _, l := range [][]api.Op{ops(put("a", "1")), ops(del("a")), ops(del("n"), put("n", "1")), ops(put("a", "1"), put("b", "1"), put("c", "1"), put("d", "1"))} {
			for _, q := range []api.Req{of(holds, l, nil), of(fails, nil, l), of(nil, l, l)} {
				want := front.Plan{Err: err}
				if err == api.OK {
					want = decided(q, some(), h)
				}
				q.Rev = 5 // it is of no meaning here: no horizon is wanted
				decides(t, "what changes something", q, some(), h, want)
			}
		}
	}
}

// What changes nothing isn't refused, whatever room there is.
func TestDecideWhatChangesNothing(t *testing.T) {
	holds, fails := cmps(has("a", "x")), cmps(has("a", "y"))
	change := ops(put("a", "1"))
	for h := range heads() {
		for _, l := range [][]api.Op{nil, {}, ops(del("n")), ops(del("n"), del("o"), del("z"), del("nn"))} {
			decides(t, "compares hold", of(holds, l, change), some(), h, front.Plan{Ok: true})
			decides(t, "compares don't hold", of(fails, change, l), some(), h, front.Plan{})
			decides(t, "no compares", of(nil, l, change), some(), h, front.Plan{Ok: true})
		}
		decides(t, "a deletion, of an empty map", does(del("a")), nil, h, front.Plan{Ok: true})
	}
}

func TestExample(t *testing.T) {
	decides(t, "the example", txn.Put("a", "x"), nil, head(16, 16, 0), front.Plan{Err: api.ErrFull})
	decides(t, "one revision earlier", txn.Put("a", "x"), nil, head(15, 15, 0), front.Plan{Ok: true, Rows: rows(sets(16, "a", "x"))})
}

// P13.1: compactions, and ranges.

func TestDecideCompact(t *testing.T) {
	cases := []struct {
		name string
		rev  int
		h    api.Head
		want front.Plan
	}{
		{"below the last revision", 6, head(9, 7, 2), front.Plan{Hor: 6}},
		{"at the last revision", 7, head(9, 7, 2), front.Plan{Hor: 7}},
		{"above the last revision", 8, head(9, 7, 2), front.Plan{Err: api.ErrFuture}},
		{"far above", 1000, head(9, 7, 2), front.Plan{Err: api.ErrFuture}},
		{"at the greatest number", math.MaxInt, head(9, 7, 2), front.Plan{Err: api.ErrFuture}},
		{"above the horizon", 3, head(9, 7, 2), front.Plan{Hor: 3}},
		{"at the horizon", 2, head(9, 7, 2), front.Plan{Hor: 2}},
		{"below the horizon", 1, head(9, 7, 2), front.Plan{Hor: 1}},
		{"at 0", 0, head(9, 7, 2), front.Plan{}},
		{"below 0", -1, head(9, 7, 2), front.Plan{Hor: -1}},
		{"at the least number", math.MinInt, head(9, 7, 2), front.Plan{Hor: math.MinInt}},
		{"of an empty log, at 0", 0, api.Head{}, front.Plan{}},
		{"of an empty log, at 1", 1, api.Head{}, front.Plan{Err: api.ErrFuture}},
		{"where no room is", 16, head(16, 16, 0), front.Plan{Hor: 16}},
		{"where revisions are used up", 1000, head(16, 1000, 984), front.Plan{Hor: 1000}},
		{"above them", 1001, head(16, 1000, 984), front.Plan{Err: api.ErrFuture}},
		{"of a log below 0, at 0", 0, head(0, -1, -1), front.Plan{Err: api.ErrFuture}},
		{"of a log below 0, at its revision", -1, head(0, -1, -1), front.Plan{Hor: -1}},
		{"at the end of heads' numbers", most, head(0, most, 0), front.Plan{Hor: most}},
		{"at their other end", least, head(0, least, 0), front.Plan{Hor: least}},
		{"behind that", least + 1, head(0, least, 0), front.Plan{Err: api.ErrFuture}},
		{"of a horizon above the revision", 8, head(9, 7, 8), front.Plan{Err: api.ErrFuture}},
	}
	for _, c := range cases {
		decides(t, c.name, compacts(c.rev), nil, c.h, c.want)
		decides(t, c.name+", of a map", compacts(c.rev), some(), c.h, c.want)
	}
}

// What other kinds use plays no part.
func TestDecideCompactAlone(t *testing.T) {
	q := of(cmps(has("a", "x")), ops(put("a", "1")), ops(put("a", "2")))
	q.Kind, q.R = api.ReqCompact, api.Range{From: "b", To: "a"}
	for _, rev := range slices.Concat(numbers(), far()) {
		q.Rev = rev
		for h := range heads() {
			decides(t, "with ops", q, some(), h, decided(compacts(rev), nil, h))
		}
	}
}

func TestDecideRange(t *testing.T) {
	q := of(cmps(has("a", "x")), ops(put("a", "1")), ops(put("a", "2")))
	for _, kind := range []int{api.ReqRange, 0, 4, -1, math.MinInt, math.MaxInt} {
		q.Kind = kind
		for _, rev := range slices.Concat(numbers(), far()) {
			q.Rev = rev
			for h := range heads() {
				decides(t, fmt.Sprintf("the Kind %d", kind), q, some(), h, front.Plan{})
				decides(t, fmt.Sprintf("the Kind %d", kind), reads(all, rev), nil, h, front.Plan{})
			}
		}
	}
}

// lists are all of so many at most, of those that are handed in, the empty one among them.
func lists[T any](most int, of ...T) [][]T {
	all, row := [][]T{nil}, [][]T{nil}
	for range most {
		var next [][]T
		for _, l := range row {
			for _, x := range of {
				next = append(next, append(slices.Clone(l), x))
			}
		}
		all, row = append(all, next...), next
	}
	return all
}

// requests are all that are made of few compares and ops, maps all that have few keys.
func requests() []api.Req {
	var l []api.Req
	sides := lists(2, put("a", "1"), del("a"), put("b", ""), del("b"))
	for _, c := range lists(1, has("a", "1"), at("a", 0), at("b", 3), at("c", 2)) {
		for _, then := range sides {
			for _, other := range sides[:6] {
				l = append(l, of(c, then, other))
			}
		}
	}
	for rev := -3; rev < 30; rev++ {
		l = append(l, compacts(rev), reads(all, rev))
	}
	return append(l, compacts(999), compacts(1000), compacts(1001), reads(all, 999), reads(all, 1000), reads(all, 1001))
}

func maps() [][]api.KV {
	var l [][]api.KV
	for _, a := range [][]api.KV{nil, kvs(kv("a", "1", 1)), kvs(kv("a", "2", 2))} {
		for _, b := range [][]api.KV{nil, kvs(kv("b", "1", 3))} {
			for _, c := range [][]api.KV{nil, kvs(kv("c", "1", 2), kv("d", "1", 2))} {
				l = append(l, slices.Concat(a, b, c))
			}
		}
	}
	return l
}

func TestDecideInEveryWay(t *testing.T) {
	hs := []api.Head{head(3, 3, 0), head(0, 15, 0), head(0, 16, 0), head(20, 24, 9), head(20, 25, 9), head(0, 999, 999), head(9, 1000, 999)}
	for _, q := range requests() {
		for _, m := range maps() {
			for _, h := range hs {
				want := decided(q, m, h)
				if p := front.Decide(q, m, h); !same(p, want) {
					t.Fatalf("Decide(%v, %v, %v): %v, not %v", q, m, h, p, want)
				}
				if p := front.Decide(q, own(m, q), h); !same(p, want) {
					t.Fatalf("Decide(%v, %v, %v): %v, not %v, as of %v", q, own(m, q), h, p, want, m)
				}
			}
		}
	}
}

func TestDecideOfEachHead(t *testing.T) {
	l := []api.Req{does(put("n", "1")), does(del("n")), of(cmps(has("n", "1")), nil, ops(del("a"))), compacts(5), compacts(0), compacts(-20), reads(all, 5)}
	for _, q := range l {
		for _, rev := range numbers() {
			for _, hor := range numbers() {
				for _, seq := range []int{least, 0, 9, most} {
					decides(t, "of each head", q, some(), head(seq, rev, hor), decided(q, some(), head(seq, rev, hor)))
				}
			}
		}
	}
}

// Other keys than its own play no part, however many there are, and whatever they have.
func TestDecideOfItsOwnKeys(t *testing.T) {
	var many []api.KV
	for i := range 3000 {
		many = append(many, kv(string([]byte{'m', byte(i >> 8), byte(i)}), "v", 1+i%900))
	}
	for _, q := range requests() {
		for _, m := range maps() {
			want := front.Decide(q, own(m, q), head(9, 9, 0))
			others := kvs(kv("", "1", 1), kv("aa", "1", 2), kv("bb", "1", 3), kv("z", "", 0))
			if p := front.Decide(q, slices.Concat(m, others), head(9, 9, 0)); !same(p, want) {
				t.Fatalf("Decide(%v, %v and others): %v, not %v", q, m, p, want)
			}
		}
	}
	for _, q := range requests()[:40] {
		want := front.Decide(q, own(some(), q), head(9, 9, 0))
		if p := front.Decide(q, slices.Concat(some(), many), head(9, 9, 0)); !same(p, want) {
			t.Fatalf("Decide(%v, of many keys): %v, not %v", q, p, want)
		}
	}
}

// P13.2: Step.

func TestStep(t *testing.T) {
	one, four := rows(sets(8, "a", "x")), rows(sets(8, "a", "x"), drops(8, "b"), sets(8, "c", ""), drops(8, "d"))
	cases := []struct {
		name    string
		h, want api.Head
		p       front.Plan
	}{
		{"nothing", head(9, 7, 2), head(10, 7, 2), front.Plan{}},
		{"Ok alone", head(9, 7, 2), head(10, 7, 2), front.Plan{Ok: true}},
		{"one event", head(9, 7, 2), head(10, 8, 2), front.Plan{Ok: true, Rows: one}},
		{"one event, not Ok", head(9, 7, 2), head(10, 8, 2), front.Plan{Rows: one}},
		{"four events", head(9, 7, 2), head(10, 8, 2), front.Plan{Ok: true, Rows: four}},
		{"no events, an empty list", head(9, 7, 2), head(10, 7, 2), front.Plan{Ok: true, Rows: []api.Event{}}},
		{"an error", head(9, 7, 2), head(10, 7, 2), front.Plan{Err: api.ErrFull}},
		{"a horizon that is above", head(9, 7, 2), head(10, 7, 3), front.Plan{Hor: 3}},
		{"a horizon that is the revision", head(9, 7, 2), head(10, 7, 7), front.Plan{Hor: 7}},
		{"a horizon that is the same", head(9, 7, 2), head(10, 7, 2), front.Plan{Hor: 2}},
		{"a horizon that is below", head(9, 7, 2), head(10, 7, 2), front.Plan{Hor: 1}},
		{"a horizon that is below 0", head(9, 7, 2), head(10, 7, 2), front.Plan{Hor: -1}},
		{"a horizon and events", head(9, 7, 2), head(10, 8, 5), front.Plan{Rows: one, Hor: 5}},
		{"events of another revision", head(9, 20, 9), head(10, 21, 9), front.Plan{Rows: one}},
		{"the first entry", api.Head{}, head(1, 1, 0), front.Plan{Ok: true, Rows: one}},
		{"the first entry, a compaction", api.Head{}, head(1, 0, 0), front.Plan{}},
		{"a horizon above one below 0", head(0, 0, -2), head(1, 0, -1), front.Plan{Hor: -1}},
		{"no horizon, above one below 0", head(0, 0, -2), head(1, 0, 0), front.Plan{}},
		{"the ends of numbers", head(most, most, most), head(most+1, most+1, most), front.Plan{Rows: one, Hor: least}},
		{"their other ends", head(least, least, least), head(least+1, least+1, most), front.Plan{Rows: one, Hor: most}},
	}
	for _, c := range cases {
		if h := front.Step(c.h, c.p); h != c.want {
			t.Errorf("%s: Step(%v, %v): %v, not %v", c.name, c.h, c.p, h, c.want)
		}
	}
}

// plans are all that are made of few rows, each error, and numbers.
func plans() []front.Plan {
	var l []front.Plan
	for _, ok := range []bool{false, true} {
		for _, r := range [][]api.Event{nil, {}, rows(sets(1, "a", "x")), rows(drops(9, "a"), sets(9, "b", ""))} {
			for _, err := range errs() {
				for _, hor := range numbers() {
					l = append(l, front.Plan{Ok: ok, Rows: r, Err: err, Hor: hor})
				}
			}
		}
	}
	return l
}

func TestStepInEveryWay(t *testing.T) {
	for _, p := range plans() {
		for _, rev := range numbers() {
			for _, hor := range numbers() {
				for _, seq := range []int{least, -1, 0, most} {
					h := head(seq, rev, hor)
					if next := front.Step(h, p); next != stepped(h, p) {
						t.Fatalf("Step(%v, %v): %v, not %v", h, p, next, stepped(h, p))
					}
				}
			}
		}
	}
}

// P13.2: Answer.

func TestAnswer(t *testing.T) {
	r := rows(sets(8, "a", "x"))
	cases := []struct {
		name string
		p    front.Plan
		want api.Resp
	}{
		{"nothing", front.Plan{}, api.Resp{}},
		{"Ok", front.Plan{Ok: true}, api.Resp{Ok: true}},
		{"Ok, with events", front.Plan{Ok: true, Rows: r}, api.Resp{Ok: true}},
		{"not Ok, with events", front.Plan{Rows: r}, api.Resp{}},
		{"a horizon", front.Plan{Hor: 5}, api.Resp{}},
		{"no room", front.Plan{Err: api.ErrFull}, api.Resp{Err: api.ErrFull}},
		{"revisions used up", front.Plan{Err: api.ErrOver}, api.Resp{Err: api.ErrOver}},
		{"a later revision", front.Plan{Err: api.ErrFuture}, api.Resp{Err: api.ErrFuture}},
		{"an error, and Ok", front.Plan{Ok: true, Err: api.ErrFull}, api.Resp{Err: api.ErrFull}},
		{"an error, and all else", front.Plan{Ok: true, Rows: r, Err: api.ErrOver, Hor: 5}, api.Resp{Err: api.ErrOver}},
	}
	for _, c := range cases {
		for _, h := range []api.Head{{}, head(9, 7, 2), head(10, 2, 7), head(most, least, most), head(least, most, least)} {
			c.want.H = h
			if a := front.Answer(h, c.p); !told(a, c.want) {
				t.Errorf("%s: Answer(%v, %v): %v, not %v", c.name, h, c.p, a, c.want)
			}
		}
	}
}

func TestAnswerInEveryWay(t *testing.T) {
	for _, p := range plans() {
		for _, n := range numbers() {
			for _, h := range []api.Head{head(n, 1, 2), head(1, n, 2), head(1, 2, n), head(n, n, n)} {
				if a := front.Answer(h, p); !told(a, answered(h, p)) {
					t.Fatalf("Answer(%v, %v): %v, not %v", h, p, a, answered(h, p))
				}
			}
		}
	}
}

// P13.3: At, and Read.

// asked looks that both At and Read tell what they should, of all kinds of requests.
func asked(t *testing.T, name string, rev int, h api.Head, want int, err api.Errno) {
	t.Helper()
	for _, q := range []api.Req{reads(all, rev), reads(key.One("a"), rev), {Rev: rev}, compacts(rev), {Kind: 1, Rev: rev, Then: ops(put("a", "1"))}} {
		if got, e := front.At(q, h); got != want || e != err {
			t.Errorf("%s: At(%v, %v): %d, %v, not %d, %v", name, q, h, got, e, want, err)
		}
		for _, m := range [][]api.KV{nil, {}, some(), kvs(kv("z", "", 0))} {
			a, told := front.Read(q, m, h), m
			if err != api.OK {
				told = nil
			}
			if a.H != h || a.Err != err || a.Ok || !slices.Equal(a.L, told) {
				t.Errorf("%s: Read(%v, %v, %v): %v, not %v, %v", name, q, m, h, a, err, told)
			}
		}
	}
}

func TestAtAndRead(t *testing.T) {
	cases := []struct {
		name string
		rev  int
		h    api.Head
		want int
		err  api.Errno
	}{
		{"at 0", 0, head(9, 7, 2), 7, api.OK},
		{"below the horizon", 1, head(9, 7, 2), 0, api.ErrOld},
		{"at the horizon", 2, head(9, 7, 2), 2, api.OK},
		{"above the horizon", 3, head(9, 7, 2), 3, api.OK},
		{"below the last revision", 6, head(9, 7, 2), 6, api.OK},
		{"at the last revision", 7, head(9, 7, 2), 7, api.OK},
		{"above the last revision", 8, head(9, 7, 2), 0, api.ErrFuture},
		{"below 0", -1, head(9, 7, 2), 0, api.ErrOld},
		{"at the greatest number", math.MaxInt, head(9, 7, 2), 0, api.ErrFuture},
		{"at the least number", math.MinInt, head(9, 7, 2), 0, api.ErrOld},
		{"of an empty log, at 0", 0, api.Head{}, 0, api.OK},
		{"of an empty log, at 1", 1, api.Head{}, 0, api.ErrFuture},
		{"of an empty log, below 0", -1, api.Head{}, 0, api.ErrOld},
		{"the horizon is the last revision, at 0", 0, head(9, 7, 7), 7, api.OK},
		{"the horizon is the last revision, there", 7, head(9, 7, 7), 7, api.OK},
		{"the horizon is the last revision, below", 6, head(9, 7, 7), 0, api.ErrOld},
		{"the horizon is the last revision, above", 8, head(9, 7, 7), 0, api.ErrFuture},
		{"the horizon is above the last revision, at 0", 0, head(9, 2, 7), 0, api.ErrOld},
		{"the horizon is above the last revision, below both", 1, head(9, 2, 7), 0, api.ErrOld},
		{"the horizon is above the last revision, at that", 2, head(9, 2, 7), 0, api.ErrOld},
		{"the horizon is above the last revision, between", 5, head(9, 2, 7), 0, api.ErrOld},
		{"the horizon is above the last revision, at the horizon", 7, head(9, 2, 7), 0, api.ErrFuture},
		{"the horizon is above the last revision, above both", 8, head(9, 2, 7), 0, api.ErrFuture},
		{"the horizon is below 0, below 0", -1, head(9, 7, -2), -1, api.OK},
		{"the horizon is below 0, there", -2, head(9, 7, -2), -2, api.OK},
		{"the horizon is below 0, below that", -3, head(9, 7, -2), 0, api.ErrOld},
		{"all is below 0, at 0", 0, head(9, -2, -7), -2, api.OK},
		{"all is below 0, above", -1, head(9, -2, -7), 0, api.ErrFuture},
		{"the ends of numbers, at 0", 0, head(most, most, least), most, api.OK},
		{"the ends of numbers, at the one", most, head(most, most, least), most, api.OK},
		{"the ends of numbers, at the other", least, head(most, most, least), least, api.OK},
		{"the ends of numbers, above", most + 1, head(most, most, least), 0, api.ErrFuture},
		{"the ends of numbers, below", least - 1, head(most, most, least), 0, api.ErrOld},
		{"the ends of numbers, the other way round", 0, head(least, least, most), 0, api.ErrOld},
	}
	for _, c := range cases {
		asked(t, c.name, c.rev, c.h, c.want, c.err)
	}
}

func TestAtAndReadInEveryWay(t *testing.T) {
	for _, rev := range slices.Concat(numbers(), far(), []int{least - 1, most + 1}) {
		for _, last := range numbers() {
			for _, hor := range numbers() {
				q, h := reads(all, rev), head(rev%5, last, hor)
				want, err := revision(q, h)
				asked(t, "in every way", rev, h, want, err)
				if t.Failed() {
					t.Fatalf("at %d, of %v", rev, h)
				}
			}
		}
	}
}

// What is told is what was handed in: nothing is taken out, or put in order.
func TestReadAsItIs(t *testing.T) {
	m := kvs(kv("z", "1", 99), kv("a", "2", -3), kv("a", "3", 0), kv("", long(), 5))
	for _, r := range []api.Range{all, key.One("n"), {From: "b", To: "a"}} {
		if a := front.Read(reads(r, 7), m, head(9, 7, 2)); !slices.Equal(a.L, m) {
			t.Errorf("Read of %v: %s", r, brief(a))
		}
	}
}

// P13.4.

// log is what the layers above make of plans: all events, and how the log stands.
type log struct {
	h     api.Head
	there []api.Event
}

// at is the map of a revision, of those keys that a range has.
func (l *log) at(rev int, r api.Range) []api.KV {
	to := slices.IndexFunc(l.there, func(e api.Event) bool { return e.Rev > rev })
	if to < 0 {
		to = len(l.there)
	}
	return event.Restrict(event.Fold(nil, l.there[:to]), r)
}

// serve decides, steps and answers, or reads; a request that may not be is no entry.
func (l *log) serve(q api.Req) api.Resp {
	if err := txn.May(q); err != api.OK {
		return api.Resp{H: l.h, Err: err}
	}
	if q.Kind == api.ReqRange {
		rev, _ := front.At(q, l.h)
		return front.Read(q, l.at(rev, q.R), l.h)
	}
	p := front.Decide(q, own(l.at(l.h.Rev, all), q), l.h)
	l.there = append(l.there, p.Rows...)
	l.h = front.Step(l.h, p)
	return front.Answer(l.h, p)
}

// asModel looks that a log says what the model says.
func asModel(t *testing.T, name string, l *log, m *model.Model, q api.Req) api.Resp {
	t.Helper()
	was := l.h
	a, want := l.serve(q), m.Serve(q)
	if !told(a, want) || l.h != m.Head() {
		t.Fatalf("%s, behind %v: %s: %s, not %s", name, was, brief(q), brief(a), brief(want))
	}
	return a
}

func TestAsTheModel(t *testing.T) {
	l := []api.Req{
		does(put("a", "1"), put("b", "1")),
		does(del("a")),
		of(cmps(has("a", "1"), at("b", 1)), ops(put("b", "2")), ops(put("a", "1"), del("b"))),
		of(cmps(at("a", 0)), nil, ops(del("b"), put("c", ""))),
		compacts(0), compacts(1), compacts(2),
		reads(all, 0), reads(key.One("b"), 1), reads(all, 2),
		does(put("", "")),
	}
	for _, row := range lists(4, l...) {
		mine, m := &log{}, model.New()
		for _, q := range row {
			asModel(t, brief(row), mine, m, q)
		}
		for rev := range 6 {
			asModel(t, brief(row), mine, m, reads(all, rev))
		}
	}
}

// Where the ring is full, and where revisions are used up: what changes something is refused, until the horizon rises.
func TestAsTheModelWithoutRoom(t *testing.T) {
	l, m := &log{}, model.New()
	for i := range 16 {
		asModel(t, "up to 16", l, m, txn.Put(string([]byte{byte('a' + i)}), "v"))
	}
	for rev := 16; rev < 1003; rev++ {
		full := api.ErrFull
		if rev >= 1000 {
			full = api.ErrOver
		}
		name := fmt.Sprintf("at %d", rev)
		if a := asModel(t, name, l, m, txn.Put("a", "w")); a.Err != full {
			t.Fatalf("%s: %v", name, a)
		}
		asModel(t, name, l, m, txn.Del("zz"))
		asModel(t, name, l, m, txn.Swap("a", "zz", "x"))
		asModel(t, name, l, m, compacts(rev+1))
		asModel(t, name, l, m, compacts(rev-20))
		asModel(t, name, l, m, reads(key.Prefix("b"), rev-16))
		asModel(t, name, l, m, reads(key.Prefix("b"), 0))
		asModel(t, name, l, m, compacts(rev-15))
		asModel(t, name, l, m, reads(key.Prefix("a"), rev-16))
		asModel(t, name, l, m, of(cmps(at("a", 0)), nil, ops(put("b", "w"), del("a"), put("a"+string([]byte{byte(rev)}), ""))))
		asModel(t, name, l, m, of(cmps(at("a", 0)), ops(put("a", "x")), nil))
		if rev < 1000 && l.h.Rev <= rev {
			t.Fatalf("%s: %v", name, l.h)
		}
	}
}

// chance are numbers that jump about, the same ones each time.
type chance uint32

func (c *chance) below(n int) int {
	*c = *c*1664525 + 1013904223
	return int(*c>>16) % n
}

// change are ops of few keys, each key mostly once, so that they may be.
func (c *chance) change() []api.Op {
	var l []api.Op
	for range c.below(5) {
		o := put(string([]byte{byte('a' + c.below(6))}), string([]byte{byte('0' + c.below(3))}))
		if c.below(3) == 0 {
			o = del(o.Key)
		}
		if c.below(9) == 0 || !slices.ContainsFunc(l, func(x api.Op) bool { return x.Key == o.Key }) {
			l = append(l, o)
		}
	}
	return l
}

// drawn is a request that is near to how a log stands.
func (c *chance) drawn(h api.Head) api.Req {
	name := func() string { return string([]byte{byte('a' + c.below(6))}) }
	near := func() int { return h.Hor - 2 + c.below(h.Rev-h.Hor+5) }
	switch c.below(8) {
	case 0:
		return reads(api.Range{From: name()}, near())
	case 1:
		return reads(api.Range{To: name()}, max(0, near()))
	case 2:
		return compacts(near())
	case 3:
		return of(cmps(has(name(), string([]byte{byte('0' + c.below(3))}))), c.change(), c.change())
	case 4:
		return of(cmps(at(name(), max(0, near()))), c.change(), c.change())
	}
	return does(c.change()...)
}

func TestAsTheModelOnLongWays(t *testing.T) {
	count := map[api.Errno]int{}
	for seed := range 6 {
		c := chance(seed)
		l, m := &log{}, model.New()
		for range 3000 {
			a := asModel(t, fmt.Sprintf("way %d", seed), l, m, c.drawn(l.h))
			count[a.Err]++
		}
	}
	for _, err := range []api.Errno{api.OK, api.ErrArg, api.ErrFull, api.ErrOld, api.ErrFuture, api.ErrOver} {
		if count[err] == 0 {
			t.Errorf("no request of the ways was answered %v", err)
		}
	}
}

// R2 to R4.

func TestNilAndEmpty(t *testing.T) {
	nils, empties := of(nil, nil, nil), of([]api.Cmp{}, []api.Op{}, []api.Op{})
	for _, m := range [][]api.KV{nil, {}, some()} {
		for h := range heads() {
			decides(t, "nil", nils, m, h, front.Plan{Ok: true})
			decides(t, "empty", empties, m, h, front.Plan{Ok: true})
		}
		decides(t, "an empty Else", of([]api.Cmp{}, ops(put("n", "1")), []api.Op{}), m, head(9, 7, 2), front.Plan{Ok: true, Rows: rows(sets(8, "n", "1"))})
		decides(t, "an empty Then", of(cmps(at("n", 1)), []api.Op{}, ops(put("n", "1"))), m, head(9, 7, 2), front.Plan{Rows: rows(sets(8, "n", "1"))})
	}
	for _, q := range []api.Req{does(del("a")), of(cmps(has("a", "x")), ops(put("a", "1")), nil), does(put("a", "1"))} {
		a, b := front.Decide(q, nil, head(9, 7, 2)), front.Decide(q, []api.KV{}, head(9, 7, 2))
		if !same(a, b) || !same(a, decided(q, nil, head(9, 7, 2))) {
			t.Errorf("Decide(%v): %v of a nil map, %v of an empty one", q, a, b)
		}
	}
	a, b := front.Step(head(9, 7, 2), front.Plan{}), front.Step(head(9, 7, 2), front.Plan{Rows: []api.Event{}})
	if a != b {
		t.Errorf("Step: %v without rows, %v with none", a, b)
	}
	for _, m := range [][]api.KV{nil, {}} {
		if a := front.Read(reads(all, 0), m, head(9, 7, 2)); len(a.L) != 0 || a.Err != api.OK {
			t.Errorf("Read of no map: %v", a)
		}
	}
}

// roomy is a list with room behind it, in which the same stands again, so that what is written there would be seen.
func roomy[T any](l ...T) []T { return slices.Concat(l, l)[:len(l)] }

// spoil is what a caller may do to what it was told, and to what it handed in.
func spoil[T any](l []T) { clear(l[:cap(l)]) }

// wide are a request with a map, all with room behind them; whole is all of it.
func wide() (api.Req, []api.KV) {
	return of(roomy(has("b", "y"), at("a", 1)), roomy(put("c", "3"), del("z"), del("a")), roomy(put("b", "4"), del("y"))), roomy(some()...)
}

func whole(q api.Req, m []api.KV) (api.Req, []api.KV) {
	q.Cmps, q.Then, q.Else = q.Cmps[:cap(q.Cmps)], q.Then[:cap(q.Then)], q.Else[:cap(q.Else)]
	return q, m[:cap(m)]
}

func TestWhatIsHandedInStays(t *testing.T) {
	for _, kind := range []int{api.ReqTxn, api.ReqRange, api.ReqCompact, 0, 4} {
		for _, rev := range []int{0, 1, 2, 7, 8} {
			for h := range heads() {
				q, m := wide()
				q.Kind, q.Rev, q.Cmps[0].Val = kind, rev, []string{"x", "y"}[rev%2]
				x, y := wide()
				x.Kind, x.Rev, x.Cmps[0].Val = q.Kind, q.Rev, q.Cmps[0].Val
				p := front.Plan{Ok: true, Rows: roomy(sets(8, "a", "x"), drops(8, "b")), Hor: 3}
				front.Decide(q, m, h)
				front.Read(q, m, h)
				front.At(q, h)
				front.Answer(front.Step(h, p), p)
				q, m = whole(q, m)
				x, y = whole(x, y)
				if !reflect.DeepEqual(q, x) || !slices.Equal(m, y) {
					t.Fatalf("%v and %v were handed in, behind it: %v, %v", x, y, q, m)
				}
				if want := rows(sets(8, "a", "x"), drops(8, "b"), sets(8, "a", "x"), drops(8, "b")); !slices.Equal(p.Rows[:4], want) {
					t.Fatalf("a plan of %v was handed in, behind it: %v", want, p.Rows[:4])
				}
			}
		}
	}
}

func TestWhatIsToldStays(t *testing.T) {
	for _, val := range []string{"x", "y"} {
		q, m := wide()
		q.Cmps[0].Val = val
		p, a := front.Decide(q, m, head(9, 7, 2)), front.Read(reads(all, 0), m, head(9, 7, 2))
		spoil(q.Cmps)
		spoil(q.Then)
		spoil(q.Else)
		spoil(m)
		x, y := wide()
		x.Cmps[0].Val = val
		if want := decided(x, y, head(9, 7, 2)); !same(p, want) || len(p.Rows) == 0 {
			t.Errorf("a plan that was told is %v then, not %v", p, want)
		}
		if !slices.Equal(a.L, y) {
			t.Errorf("a map that was told is %v then, not %v", a.L, y)
		}
	}
}

func TestNothingThatIsToldIsShared(t *testing.T) {
	q, m := wide()
	h := head(9, 7, 2)
	p, other := front.Decide(q, m, h), front.Decide(q, m, h)
	a, b := front.Read(reads(all, 0), m, h), front.Read(reads(all, 0), m, h)
	spoil(p.Rows)
	spoil(a.L)
	x, y := wide()
	if want := decided(x, y, h); !same(other, want) || !slices.Equal(b.L, y) {
		t.Errorf("told twice, the one is changed with the other: %v, %v", other, b)
	}
	spoil(front.Read(reads(all, 0), m[:0], h).L)
	q, m = whole(q, m)
	x, y = whole(x, y)
	if !reflect.DeepEqual(q, x) || !slices.Equal(m, y) {
		t.Errorf("what was handed in is changed with what was told: %v, %v", q, m)
	}
}

func TestAskedAgain(t *testing.T) {
	c := chance(3)
	l := &log{}
	for range 1500 {
		q, m, h := c.drawn(l.h), l.at(l.h.Rev, all), l.h
		p := front.Decide(q, m, h)
		rev, err := front.At(q, h)
		a := front.Read(q, m, h)
		l.serve(q)
		if again := front.Decide(q, m, h); !same(p, again) {
			t.Fatalf("Decide(%v, %v, %v): %v, and again: %v", q, m, h, p, again)
		}
		if next := front.Step(h, p); next != front.Step(h, p) || !told(front.Answer(next, p), front.Answer(next, p)) {
			t.Fatalf("Step(%v, %v): %v, and another one", h, p, next)
		}
		if n, e := front.At(q, h); n != rev || e != err || !told(a, front.Read(q, m, h)) {
			t.Fatalf("At(%v, %v): %v, %v, and again: %v, %v", q, h, rev, err, n, e)
		}
	}
}

// P1: whatever is handed in; beyond 2^40 nothing else is promised of a head's numbers.
func TestNoCallPanics(t *testing.T) {
	texts := []string{"", "a", "b", "\xff\xff\xff\xff\xff\xff\xff\xff", long()}
	ends := slices.Concat(far(), []int{least, -1, 0, 1, 999, 1000, most})
	for _, k := range texts {
		for kind := -1; kind < 5; kind++ {
			for _, rev := range ends {
				for _, hor := range ends {
					q := api.Req{
						Kind: kind, R: api.Range{From: k, To: "a"}, Rev: rev,
						Cmps: cmps(has(k, k), at(k, rev)), Then: ops(put(k, k), del("a")), Else: ops(del(k), put("a", k)),
					}
					h := head(hor, rev, hor)
					p := front.Decide(q, kvs(kv(k, k, rev), kv("a", "", hor)), h)
					front.Answer(front.Step(h, p), p)
					front.Step(head(rev, hor, rev), p)
					front.Read(q, kvs(kv(k, k, rev)), h)
					front.At(q, head(rev, hor, rev))
				}
			}
		}
	}
	front.Decide(api.Req{}, nil, api.Head{})
	front.Read(api.Req{}, nil, api.Head{})
}
