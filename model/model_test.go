package model_test

import (
	"fmt"
	"maps"
	"math"
	"reflect"
	"slices"
	"strings"
	"testing"

	"impost/api"
	"impost/event"
	"impost/hist"
	"impost/key"
	"impost/model"
	"impost/txn"
)

func put(k, v string) api.Op { return api.Op{Key: k, Val: v} }

func del(k string) api.Op { return api.Op{Key: k, Del: true} }

func ops(l ...api.Op) []api.Op { return l }

// has asks whether a key has a value, at whether it was put at a revision.
func has(k, v string) api.Cmp { return api.Cmp{Kind: 1, Key: k, Val: v} }

func at(k string, rev int) api.Cmp { return api.Cmp{Kind: 2, Key: k, Rev: rev} }

func cmps(l ...api.Cmp) []api.Cmp { return l }

func kv(k, v string, rev int) api.KV { return api.KV{Key: k, Val: v, Rev: rev} }

func kvs(l ...api.KV) []api.KV { return l }

// of is a transaction, does one that compares nothing, reads a range, compacts a compaction.
func of(c []api.Cmp, then, other []api.Op) api.Req {
	return api.Req{Kind: api.ReqTxn, Cmps: c, Then: then, Else: other}
}

func does(l ...api.Op) api.Req { return of(nil, l, nil) }

func reads(r api.Range, rev int) api.Req { return api.Req{Kind: api.ReqRange, R: r, Rev: rev} }

func compacts(rev int) api.Req { return api.Req{Kind: api.ReqCompact, Rev: rev} }

// all is the range that has every key.
var all = api.Range{}

func head(seq, rev, hor int) api.Head { return api.Head{Seq: seq, Rev: rev, Hor: hor} }

// long is a text that is far longer than any key or value may be.
func long() string { return strings.Repeat("k", 1<<16) }

// far are numbers that are no revision, whatever there was.
func far() []int {
	return []int{math.MinInt, math.MinInt + 1, math.MinInt32, -1 << 40, -1001, -2, -1, 1001, 1002, 1 << 16, 1 << 40, math.MaxInt32, math.MaxInt - 1, math.MaxInt}
}

// plain is the model in the chapter's words: nothing is left out, and what there is is made anew.
type plain struct {
	rows     [][]api.Event // that of the revision 1 is first
	seq, hor int
}

func (p *plain) head() api.Head { return head(p.seq, len(p.rows), p.hor) }

func (p *plain) at(rev int, r api.Range) []api.KV {
	m := map[string]api.KV{}
	for _, row := range p.rows[:rev] {
		for _, e := range row {
			m[e.Key] = kv(e.Key, e.Val, e.Rev)
			if e.Del {
				delete(m, e.Key)
			}
		}
	}
	var l []api.KV
	for _, k := range slices.Sorted(maps.Keys(m)) {
		if k >= r.From && (r.To == "" || k < r.To) {
			l = append(l, m[k])
		}
	}
	return l
}

func (p *plain) serve(q api.Req) api.Resp {
	a := p.answer(q)
	a.H = p.head()
	return a
}

func (p *plain) answer(q api.Req) api.Resp {
	if txn.May(q) != api.OK {
		return api.Resp{Err: api.ErrArg}
	}
	switch q.Kind {
	case 2:
		return p.read(q)
	case 3:
		p.seq++
		if q.Rev > len(p.rows) {
			return api.Resp{Err: api.ErrFuture}
		}
		p.hor = max(p.hor, q.Rev)
		return api.Resp{}
	}
	p.seq++
	return p.change(q)
}

func (p *plain) read(q api.Req) api.Resp {
	rev := q.Rev
	if rev == 0 {
		rev = len(p.rows)
	}
	if rev < p.hor {
		return api.Resp{Err: api.ErrOld}
	}
	if rev > len(p.rows) {
		return api.Resp{Err: api.ErrFuture}
	}
	return api.Resp{L: p.at(rev, q.R)}
}

func (p *plain) change(q api.Req) api.Resp {
	m := p.at(len(p.rows), all)
	there := func(k string) (api.KV, bool) {
		for _, x := range m {
			if x.Key == k {
				return x, true
			}
		}
		return api.KV{}, false
	}
	ok, side := true, q.Then
	for _, c := range q.Cmps {
		x, is := there(c.Key)
		if c.Kind == 1 && !(is && x.Val == c.Val) || c.Kind == 2 && !(is && x.Rev == c.Rev || !is && c.Rev == 0) {
			ok, side = false, q.Else
		}
	}
	var row []api.Event
	for _, o := range side {
		if _, is := there(o.Key); is || !o.Del {
			row = append(row, api.Event{Rev: len(p.rows) + 1, Key: o.Key, Val: o.Val, Del: o.Del})
		}
	}
	switch {
	case len(row) == 0:
		return api.Resp{Ok: ok}
	case len(p.rows) == 1000:
		return api.Resp{Err: api.ErrOver}
	case len(p.rows)+1 > p.hor+16:
		return api.Resp{Err: api.ErrFull}
	}
	p.rows = append(p.rows, row)
	return api.Resp{Ok: ok}
}

// same are answers that are the same, nil and empty lists being the same.
func same(a, b api.Resp) bool {
	return a.H == b.H && a.Err == b.Err && a.Ok == b.Ok && slices.Equal(a.L, b.L)
}

// brief is how something is told in a failure, cut where it is long.
func brief(x any) string {
	s := fmt.Sprintf("%+q", fmt.Sprintf("%v", x))
	return s[:min(len(s), 300)]
}

// tells looks that a request is answered just so.
func tells(t *testing.T, m *model.Model, q api.Req, want api.Resp) {
	t.Helper()
	if a := m.Serve(q); !same(a, want) {
		t.Errorf("Serve(%s): %s, not %s", brief(q), brief(a), brief(want))
	}
	if h := m.Head(); h != want.H {
		t.Errorf("Serve(%s): Head is %v then, not %v", brief(q), h, want.H)
	}
}

// both looks that a request is answered as the chapter's words have it.
func both(t *testing.T, m *model.Model, p *plain, q api.Req) {
	t.Helper()
	tells(t, m, q, p.serve(q))
}

func ranges() []api.Range {
	return []api.Range{
		all, {From: "a"}, {From: "b"}, {To: "b"}, {From: "a", To: "b"}, {From: "a\x00", To: "b"}, {From: "b", To: "c"}, {From: "d"},
		key.One("a"), key.One("b"), key.Prefix("c"), key.Prefix("\xff"),
	}
}

// agrees looks that a model stands just as the chapter's words have it: its Head, what is read of it, and its Hist, at all revisions.
func agrees(t *testing.T, m *model.Model, p *plain, rs ...api.Range) {
	t.Helper()
	for rev := range len(p.rows) + 3 {
		for _, r := range rs {
			both(t, m, p, reads(r, rev))
		}
	}
	asHist(t, m.Hist(), p, rs...)
	if h := m.Head(); h != p.head() {
		t.Errorf("Head: %v, not %v", h, p.head())
	}
}

func asHist(t *testing.T, h *hist.Hist, p *plain, rs ...api.Range) {
	t.Helper()
	if h == nil || h.Rev() != len(p.rows) || h.Hor() != p.hor {
		t.Fatalf("Hist: %v, the revision %d, the horizon %d, not %d and %d", h, h.Rev(), h.Hor(), len(p.rows), p.hor)
	}
	for rev := p.hor; rev <= len(p.rows); rev++ {
		for _, r := range rs {
			if l, err := h.At(rev, r); err != api.OK || !slices.Equal(l, p.at(rev, r)) {
				t.Errorf("Hist: At(%d, %q): %v, %v, not %v", rev, r, l, err, p.at(rev, r))
			}
		}
		if rev == p.hor {
			continue
		}
		if l, err := h.Events(rev); err != api.OK || !slices.Equal(l, p.rows[rev-1]) {
			t.Errorf("Hist: Events(%d): %v, %v, not %v", rev, l, err, p.rows[rev-1])
		}
	}
}

// made is a model that has served those, and the chapter's words of it.
func made(t *testing.T, l ...api.Req) (*model.Model, *plain) {
	t.Helper()
	m, p := model.New(), &plain{}
	if m == nil {
		t.Fatal("New is nil")
	}
	for _, q := range l {
		both(t, m, p, q)
	}
	return m, p
}

// some is a model of three revisions: at the last one a has x of 1, b has z of 3, c is deleted, and the horizon is 1.
func some(t *testing.T) (*model.Model, *plain) {
	t.Helper()
	return made(t,
		does(put("a", "x"), put("b", "y"), put("c", "w")),
		does(del("c")),
		does(put("b", "z")),
		compacts(1),
	)
}

// P8.1.

func TestNew(t *testing.T) {
	m := model.New()
	if m == nil {
		t.Fatal("New is nil")
	}
	if h := m.Head(); h != (api.Head{}) {
		t.Errorf("Head of a new one: %v", h)
	}
	for _, r := range ranges() {
		tells(t, m, reads(r, 0), api.Resp{})
		tells(t, m, reads(r, 1), api.Resp{Err: api.ErrFuture})
		tells(t, m, reads(r, 1000), api.Resp{Err: api.ErrFuture})
	}
	h := m.Hist()
	if h == nil || h.Rev() != 0 || h.Hor() != 0 {
		t.Fatalf("Hist of a new one: %v", h)
	}
	if l, err := h.At(0, all); err != api.OK || len(l) != 0 {
		t.Errorf("Hist of a new one: At(0): %v, %v", l, err)
	}
	if l, err := h.Events(1); err != api.ErrFuture || len(l) != 0 {
		t.Errorf("Hist of a new one: Events(1): %v, %v", l, err)
	}
	if h := m.Head(); h != (api.Head{}) {
		t.Errorf("Head of one that was read alone: %v", h)
	}
}

func TestNewOnesAreTheirOwn(t *testing.T) {
	a, b := model.New(), model.New()
	if a == b {
		t.Fatal("New tells one model twice")
	}
	tells(t, a, does(put("a", "x")), api.Resp{H: head(1, 1, 0), Ok: true})
	agrees(t, b, &plain{}, all)
	tells(t, b, does(put("a", "y"), put("b", "y")), api.Resp{H: head(1, 1, 0), Ok: true})
	tells(t, b, compacts(1), api.Resp{H: head(2, 1, 1)})
	tells(t, a, reads(all, 0), api.Resp{H: head(1, 1, 0), L: kvs(kv("a", "x", 1))})
	agrees(t, model.New(), &plain{}, all)
}

func TestHead(t *testing.T) {
	m := model.New()
	steps := []struct {
		q    api.Req
		want api.Head
	}{
		{does(put("a", "x")), head(1, 1, 0)},
		{does(del("b")), head(2, 1, 0)},
		{reads(all, 0), head(2, 1, 0)},
		{does(del("a"), put("b", "y")), head(3, 2, 0)},
		{compacts(3), head(4, 2, 0)},
		{compacts(1), head(5, 2, 1)},
		{compacts(0), head(6, 2, 1)},
		{api.Req{}, head(6, 2, 1)},
		{reads(all, 9), head(6, 2, 1)},
		{compacts(2), head(7, 2, 2)},
	}
	for i, x := range steps {
		m.Serve(x.q)
		if h := m.Head(); h != x.want {
			t.Errorf("behind the request %d: Head: %v, not %v", i, h, x.want)
		}
	}
}

func TestHist(t *testing.T) {
	m, p := some(t)
	agrees(t, m, p, ranges()...)
	h := m.Hist()
	if l, err := h.Events(2); err != api.OK || !slices.Equal(l, []api.Event{{Rev: 2, Key: "c", Del: true}}) {
		t.Errorf("Events(2): %v, %v", l, err)
	}
	if _, err := h.At(0, all); err != api.ErrOld {
		t.Errorf("At(0): %v, as the horizon is 1", err)
	}
}

func TestHistIsACopy(t *testing.T) {
	m, p := some(t)
	h, other := m.Hist(), m.Hist()
	if h == other {
		t.Fatal("Hist tells one Hist twice")
	}
	h.Apply(ops(put("a", "1"), put("d", "1"), del("b")))
	h.Apply(ops(del("a")))
	if err := h.Compact(4); err != api.OK {
		t.Fatalf("Compact(4) of a copy: %v", err)
	}
	agrees(t, m, p, ranges()...)
	asHist(t, other, p, ranges()...)
	was := *p
	for _, q := range []api.Req{does(put("a", "2"), put("e", "2"), del("b")), does(del("a")), compacts(5)} {
		both(t, m, p, q)
	}
	asHist(t, other, &was, ranges()...)
	agrees(t, m, p, ranges()...)
	if l, err := h.At(5, all); err != api.OK || !slices.Equal(l, kvs(kv("d", "1", 4))) {
		t.Errorf("At(5) of the copy that was changed: %v, %v", l, err)
	}
}

// By what a model embeds nobody changes its map past Serve.
func TestNoOtherCalls(t *testing.T) {
	kind := reflect.TypeFor[*model.Model]()
	for i := range kind.NumMethod() {
		if name := kind.Method(i).Name; !slices.Contains([]string{"Serve", "Head", "Hist"}, name) {
			t.Errorf("a model has the call %s", name)
		}
	}
}

func TestNil(t *testing.T) {
	var m *model.Model
	if h := m.Head(); h != (api.Head{}) {
		t.Errorf("Head of nil: %v", h)
	}
	if h := m.Hist(); h != nil {
		t.Errorf("Hist of nil: %v", h)
	}
	l := []api.Req{does(put("a", "x")), does(), does(del("a")), of(cmps(has("a", "x")), ops(put("a", "y")), ops(put("a", "z")))}
	for rev := range 3 {
		l = append(l, reads(all, rev), compacts(rev))
	}
	for _, q := range slices.Concat(l, wrong()) {
		tells(t, m, q, api.Resp{Err: api.ErrArg})
	}
}

// P8.2: what may not be.

// wrong are requests of each Kind, and of none, that may not be.
func wrong() []api.Req {
	l := []api.Req{
		{},
		does(put("", "x")), does(del("")), does(put("a23456789", "x")), does(put("a", "v23456789")),
		does(put(long(), "x")), does(del(long())), does(put("a", long())),
		does(put("a", "1"), put("a", "2")), does(del("a"), put("a", "1")), does(api.Op{Key: "a", Val: "x", Del: true}),
		does(put("a", ""), put("b", ""), put("c", ""), put("d", ""), put("e", "")),
		of(nil, nil, ops(put("", "x"))), of(nil, ops(put("a", "x")), ops(put("b", "1"), put("b", "2"))),
		of(cmps(has("", "x")), ops(put("a", "x")), nil), of(cmps(has("a", "v23456789")), ops(put("a", "x")), nil),
		of(cmps(api.Cmp{Kind: 3, Key: "a"}), ops(put("a", "x")), ops(put("b", "x"))), of(cmps(at("a", -1)), ops(put("a", "x")), nil),
		of(slices.Repeat(cmps(at("a", 0)), 5), ops(put("a", "x")), nil), of(slices.Repeat(cmps(at("a", 0)), 1<<16), ops(put("a", "x")), nil),
		does(slices.Repeat(ops(put("a", "x")), 1<<16)...), of(nil, nil, slices.Repeat(ops(del("a")), 1<<16)),
		reads(api.Range{From: "b", To: "a"}, 0), reads(api.Range{From: "a", To: "a"}, 1), reads(key.One("a23456789"), 1),
		reads(api.Range{From: long()}, 0), reads(api.Range{To: long()}, 1),
		reads(all, -1), reads(all, math.MinInt), compacts(-1), compacts(math.MinInt),
	}
	for _, kind := range append(far(), 0, 4, 5, 256, 257, 258, 259, 1<<32+1) {
		q := does(put("a", "x"))
		q.Kind = kind
		l = append(l, q, api.Req{Kind: kind})
	}
	return l
}

func TestMayNotBe(t *testing.T) {
	for _, q := range wrong() {
		m, p := made(t)
		tells(t, m, q, api.Resp{Err: api.ErrArg})
		agrees(t, m, p, all)
		m, p = some(t)
		tells(t, m, q, api.Resp{H: head(4, 3, 1), Err: api.ErrArg})
		agrees(t, m, p, all)
	}
}

// It is told ahead of whatever else may be wrong.
func TestMayNotBeAheadOfAll(t *testing.T) {
	m, p := sixteen(t)
	for _, q := range wrong() {
		both(t, m, p, q)
	}
	agrees(t, m, p, all)
	m, p = thousand(t, 984)
	for _, q := range wrong() {
		both(t, m, p, q)
	}
	agrees(t, m, p, all)
}

// P8.2: transactions.

func TestTransactions(t *testing.T) {
	then, other := ops(put("a", "1"), del("b")), ops(put("c", "2"), del("a"))
	left := kvs(kv("a", "1", 4))
	right := kvs(kv("b", "z", 3), kv("c", "2", 4))
	stays := kvs(kv("a", "x", 1), kv("b", "z", 3))
	cases := []struct {
		name string
		q    api.Req
		rev  int
		ok   bool
		want []api.KV
	}{
		{"no compares", of(nil, then, other), 4, true, left},
		{"a value holds", of(cmps(has("a", "x")), then, other), 4, true, left},
		{"a value doesn't", of(cmps(has("a", "y")), then, other), 4, false, right},
		{"the value ahead of the last one doesn't", of(cmps(has("b", "y")), then, other), 4, false, right},
		{"the value of a key that isn't there", of(cmps(has("c", "w")), then, other), 4, false, right},
		{"a revision holds", of(cmps(at("b", 3)), then, other), 4, true, left},
		{"a revision doesn't", of(cmps(at("b", 1)), then, other), 4, false, right},
		{"a key isn't there", of(cmps(at("c", 0)), then, other), 4, true, left},
		{"a key is there", of(cmps(at("a", 0)), then, other), 4, false, right},
		{"all hold", of(cmps(has("a", "x"), at("a", 1), at("b", 3), at("c", 0)), then, other), 4, true, left},
		{"one of them doesn't", of(cmps(has("a", "x"), at("a", 1), at("b", 2), at("c", 0)), then, other), 4, false, right},
		{"nothing to do as they hold", of(cmps(has("a", "x")), nil, other), 3, true, stays},
		{"nothing to do as they don't", of(cmps(has("a", "y")), then, nil), 3, false, stays},
		{"nothing at all", does(), 3, true, stays},
		{"nothing but compares that hold", of(cmps(at("c", 0)), nil, nil), 3, true, stays},
		{"nothing but compares that don't", of(cmps(at("c", 2)), nil, nil), 3, false, stays},
		{"deletions of what isn't there", does(del("c"), del("d")), 3, true, stays},
		{"deletions of what isn't there, as they don't hold", of(cmps(has("a", "y")), then, ops(del("c"), del("d"))), 3, false, stays},
		{"a deletion of what isn't there, and a put", does(del("c"), put("d", "1")), 4, true, kvs(kv("a", "x", 1), kv("b", "z", 3), kv("d", "1", 4))},
		{"deletions of all", does(del("b"), del("a")), 4, true, nil},
		{"a put of what is there", does(put("a", "x")), 4, true, kvs(kv("a", "x", 4), kv("b", "z", 3))},
		{"an empty value", does(put("a", "")), 4, true, kvs(kv("a", "", 4), kv("b", "z", 3))},
		{"four puts", does(put("d", "4"), put("c", "3"), put("b", "2"), put("a", "1")), 4, true, kvs(kv("a", "1", 4), kv("b", "2", 4), kv("c", "3", 4), kv("d", "4", 4))},
		{"the longest key and value", does(put("k2345678", "v2345678")), 4, true, kvs(kv("a", "x", 1), kv("b", "z", 3), kv("k2345678", "v2345678", 4))},
	}
	for _, c := range cases {
		m, p := some(t)
		was := m.Hist()
		tells(t, m, c.q, api.Resp{H: head(5, c.rev, 1), Ok: c.ok})
		tells(t, m, reads(all, 0), api.Resp{H: head(5, c.rev, 1), L: c.want})
		p.serve(c.q)
		agrees(t, m, p, ranges()...)
		for rev := 1; rev <= 3; rev++ {
			l, _ := was.At(rev, all)
			tells(t, m, reads(all, rev), api.Resp{H: head(5, c.rev, 1), L: l})
		}
		if t.Failed() {
			t.Fatal(c.name)
		}
	}
}

// A request's R and Rev play no part in a transaction, nor what else a compaction, or a range, doesn't use.
func TestWhatAKindDoesNotUse(t *testing.T) {
	full := api.Req{R: api.Range{From: "b", To: "a"}, Rev: -7, Cmps: cmps(has("a", "x"), at("c", 0)), Then: ops(put("a", "1"), del("b")), Else: ops(del("a"))}
	q := full
	q.Kind = api.ReqTxn
	m, _ := some(t)
	tells(t, m, q, api.Resp{H: head(5, 4, 1), Ok: true})
	tells(t, m, reads(all, 0), api.Resp{H: head(5, 4, 1), L: kvs(kv("a", "1", 4))})
	q = full
	q.Kind, q.R, q.Rev = api.ReqRange, key.One("b"), 2
	m, _ = some(t)
	tells(t, m, q, api.Resp{H: head(4, 3, 1), L: kvs(kv("b", "y", 1))})
	q.Kind, q.Cmps = api.ReqCompact, cmps(at("", -1))
	tells(t, m, q, api.Resp{H: head(5, 3, 2)})
	tells(t, m, reads(all, 0), api.Resp{H: head(5, 3, 2), L: kvs(kv("a", "x", 1), kv("b", "z", 3))})
}

// sixteen is a model whose last revision is 16 above the horizon 0: n has its number.
func sixteen(t *testing.T) (*model.Model, *plain) {
	t.Helper()
	m, p := made(t)
	for i := range 16 {
		tells(t, m, does(put("n", number(i+1))), api.Resp{H: head(i+1, i+1, 0), Ok: true})
		p.serve(does(put("n", number(i+1))))
	}
	return m, p
}

// number is a text that is another one for each number.
func number(i int) string { return string([]byte{byte(i >> 8), byte(i)}) }

// none are transactions that change nothing where n alone is, and whether their compares hold.
func none() map[bool][]api.Req {
	return map[bool][]api.Req{
		true: {
			does(), does(del("x")), does(del("x"), del("y"), del("z"), del("a")), of(cmps(at("x", 0)), nil, ops(put("a", "1"))),
			of(cmps(at("x", 0)), ops(del("x")), ops(del("n"))),
		},
		false: {
			of(cmps(at("x", 1)), ops(put("a", "1")), nil), of(cmps(at("n", 0)), ops(put("n", "1")), ops(del("x"))), of(cmps(has("x", "")), nil, nil),
		},
	}
}

func nothingDone(t *testing.T, m *model.Model, h api.Head) api.Head {
	t.Helper()
	for _, ok := range []bool{true, false} {
		for _, q := range none()[ok] {
			h.Seq++
			tells(t, m, q, api.Resp{H: h, Ok: ok})
		}
	}
	return h
}

// changing are transactions that change something where n alone is.
func changing() []api.Req {
	return []api.Req{
		does(put("n", "1")), does(put("a", "1")), does(del("n")), does(del("x"), del("n")), does(put("n", "1"), del("x")),
		of(cmps(at("x", 0)), ops(put("a", "1")), nil), of(cmps(at("x", 1)), nil, ops(put("a", "1"))), of(cmps(at("x", 1)), nil, ops(del("n"))),
	}
}

func refused(t *testing.T, m *model.Model, h api.Head, err api.Errno) api.Head {
	t.Helper()
	for _, q := range changing() {
		h.Seq++
		tells(t, m, q, api.Resp{H: h, Err: err})
	}
	return h
}

func TestRoom(t *testing.T) {
	if api.RingSize != 16 {
		t.Fatalf("RingSize: %d", api.RingSize)
	}
	m, p := sixteen(t)
	h := refused(t, m, head(16, 16, 0), api.ErrFull)
	h = nothingDone(t, m, h)
	h = refused(t, m, h, api.ErrFull)
	p.seq = h.Seq
	agrees(t, m, p, ranges()...)
}

// Behind a compaction there is room for as many revisions as the horizon rose.
func TestRoomBehindCompactions(t *testing.T) {
	for up := 1; up <= 16; up++ {
		m, p := sixteen(t)
		for _, q := range []api.Req{compacts(0), does(put("n", "no")), compacts(17), does(put("n", "no")), compacts(up)} {
			both(t, m, p, q)
		}
		for i := range up {
			tells(t, m, does(put("n", number(i))), api.Resp{H: head(22+i, 17+i, up), Ok: true})
			p.serve(does(put("n", number(i))))
		}
		h := refused(t, m, head(21+up, 16+up, up), api.ErrFull)
		h = nothingDone(t, m, h)
		p.seq = h.Seq
		agrees(t, m, p, all)
		h.Seq++
		h.Hor++
		tells(t, m, compacts(h.Hor), api.Resp{H: h})
		h.Seq++
		h.Rev++
		tells(t, m, does(del("n")), api.Resp{H: h, Ok: true})
		// It is empty, and has no room.
		h.Seq++
		tells(t, m, does(put("n", "1")), api.Resp{H: h, Err: api.ErrFull})
		h.Seq++
		tells(t, m, does(del("n")), api.Resp{H: h, Ok: true})
	}
}

// thousand is a model whose last revision is 1000, whose horizon is as it is handed in, and where n alone is.
func thousand(t *testing.T, hor int) (*model.Model, *plain) {
	t.Helper()
	return upTo(t, 1000, hor)
}

func upTo(t *testing.T, last, hor int) (*model.Model, *plain) {
	t.Helper()
	m, p := made(t)
	serve := func(q api.Req) {
		if a, b := m.Serve(q), p.serve(q); a.Err != api.OK || !same(a, b) {
			t.Fatalf("Serve(%v): %v, not %v", q, a, b)
		}
	}
	for i := 1; i <= last; i++ {
		if m.Head().Rev-m.Head().Hor == 16 {
			serve(compacts(min(hor, i-1)))
		}
		serve(does(put("n", number(i))))
	}
	serve(compacts(hor))
	if h := m.Head(); h.Rev != last || h.Hor != hor {
		t.Fatalf("Head: %v", h)
	}
	return m, p
}

func TestOver(t *testing.T) {
	if api.MaxRev != 1000 {
		t.Fatalf("MaxRev: %d", api.MaxRev)
	}
	// With the horizon 984 there is no room, either.
	for _, hor := range []int{984, 985, 992, 999, 1000} {
		m, p := thousand(t, hor)
		h := refused(t, m, m.Head(), api.ErrOver)
		h = nothingDone(t, m, h)
		h = refused(t, m, h, api.ErrOver)
		h.Seq, h.Hor = h.Seq+1, 1000
		tells(t, m, compacts(1000), api.Resp{H: h})
		h = refused(t, m, h, api.ErrOver)
		h.Seq++
		tells(t, m, compacts(1001), api.Resp{H: h, Err: api.ErrFuture})
		h = nothingDone(t, m, h)
		p.seq, p.hor = h.Seq, 1000
		agrees(t, m, p, ranges()...)
	}
}

// One ahead of the last revision that there can be.
func TestNextToOver(t *testing.T) {
	m, _ := upTo(t, 999, 983)
	h := refused(t, m, m.Head(), api.ErrFull)
	h = nothingDone(t, m, h)
	h.Seq, h.Hor = h.Seq+1, 984
	tells(t, m, compacts(984), api.Resp{H: h})
	h.Seq, h.Rev = h.Seq+1, 1000
	tells(t, m, does(put("n", "last")), api.Resp{H: h, Ok: true})
	h = refused(t, m, h, api.ErrOver)
	tells(t, m, reads(all, 0), api.Resp{H: h, L: kvs(kv("n", "last", 1000))})
	tells(t, m, reads(all, 999), api.Resp{H: h, L: kvs(kv("n", number(999), 999))})
	tells(t, m, reads(all, 1001), api.Resp{H: h, Err: api.ErrFuture})
}

// P8.2: compactions.

func TestCompactions(t *testing.T) {
	type step struct {
		rev, hor int
		err      api.Errno
	}
	// Of a model of five revisions, with the horizon 2.
	cases := [][]step{
		{{0, 2, api.OK}}, {{1, 2, api.OK}}, {{2, 2, api.OK}}, {{3, 3, api.OK}}, {{4, 4, api.OK}}, {{5, 5, api.OK}},
		{{6, 2, api.ErrFuture}}, {{7, 2, api.ErrFuture}}, {{1000, 2, api.ErrFuture}}, {{1001, 2, api.ErrFuture}}, {{math.MaxInt, 2, api.ErrFuture}},
		{{3, 3, api.OK}, {3, 3, api.OK}, {2, 3, api.OK}, {0, 3, api.OK}, {4, 4, api.OK}, {3, 4, api.OK}},
		{{5, 5, api.OK}, {6, 5, api.ErrFuture}, {5, 5, api.OK}, {0, 5, api.OK}},
		{{6, 2, api.ErrFuture}, {5, 5, api.OK}},
	}
	for _, c := range cases {
		m, p := five(t)
		for i, s := range c {
			tells(t, m, compacts(s.rev), api.Resp{H: head(7+i, 5, s.hor), Err: s.err})
			p.serve(compacts(s.rev))
			agrees(t, m, p, ranges()...)
		}
	}
}

// five is a model of five revisions, with the horizon 2: a key that was put, one that was deleted, and so on.
func five(t *testing.T) (*model.Model, *plain) {
	t.Helper()
	return made(t,
		does(put("b", "1"), put("a", "1"), put("d", "1")),
		does(put("c", "2"), del("a")),
		does(put("a", "3"), put("b", "3")),
		does(del("d"), del("c")),
		does(put("ab", "5"), put("b\xff", "5"), put("a", "5")),
		compacts(2),
	)
}

func TestCompactionsOfANewOne(t *testing.T) {
	m, p := made(t)
	tells(t, m, compacts(0), api.Resp{H: head(1, 0, 0)})
	tells(t, m, compacts(1), api.Resp{H: head(2, 0, 0), Err: api.ErrFuture})
	tells(t, m, compacts(16), api.Resp{H: head(3, 0, 0), Err: api.ErrFuture})
	tells(t, m, compacts(-1), api.Resp{H: head(3, 0, 0), Err: api.ErrArg})
	p.seq = 3
	agrees(t, m, p, all)
}

// P8.2: ranges.

func TestRanges(t *testing.T) {
	one := kvs(kv("b", "1", 1), kv("c", "2", 2), kv("d", "1", 1))
	three := kvs(kv("a", "3", 3), kv("b", "3", 3), kv("c", "2", 2), kv("d", "1", 1))
	last := kvs(kv("a", "5", 5), kv("ab", "5", 5), kv("b", "3", 3), kv("b\xff", "5", 5))
	cases := []struct {
		name string
		r    api.Range
		rev  int
		want []api.KV
		err  api.Errno
	}{
		{"all, at 0", all, 0, last, api.OK},
		{"all, at the last revision", all, 5, last, api.OK},
		{"all, at the horizon", all, 2, one, api.OK},
		{"all, between", all, 3, three, api.OK},
		{"all, ahead of the last revision", all, 4, kvs(kv("a", "3", 3), kv("b", "3", 3)), api.OK},
		{"all, below the horizon", all, 1, nil, api.ErrOld},
		{"all, above the last revision", all, 6, nil, api.ErrFuture},
		{"all, far above", all, 1001, nil, api.ErrFuture},
		{"all, at the greatest number", all, math.MaxInt, nil, api.ErrFuture},
		{"all, below 0", all, -1, nil, api.ErrArg},
		{"one key, at 0", key.One("b"), 0, kvs(kv("b", "3", 3)), api.OK},
		{"one key, at the horizon", key.One("b"), 2, kvs(kv("b", "1", 1)), api.OK},
		{"one key, below the horizon", key.One("b"), 1, nil, api.ErrOld},
		{"one key, above the last revision", key.One("b"), 6, nil, api.ErrFuture},
		{"a prefix, at 0", key.Prefix("a"), 0, kvs(kv("a", "5", 5), kv("ab", "5", 5)), api.OK},
		{"a prefix, between", key.Prefix("a"), 3, kvs(kv("a", "3", 3)), api.OK},
		{"from b on, at 0", api.Range{From: "b"}, 0, kvs(kv("b", "3", 3), kv("b\xff", "5", 5)), api.OK},
		{"below b, at 0", api.Range{To: "b"}, 0, kvs(kv("a", "5", 5), kv("ab", "5", 5)), api.OK},
		{"none, at 0", key.Prefix("d"), 0, nil, api.OK},
		{"none, at the last revision", key.Prefix("c"), 5, nil, api.OK},
		{"none, at the horizon", key.Prefix("a"), 2, nil, api.OK},
		{"none, at any", key.One("zzzzzzzz"), 4, nil, api.OK},
		{"none, below the horizon", key.Prefix("z"), 1, nil, api.ErrOld},
		{"none, above the last revision", key.Prefix("z"), 6, nil, api.ErrFuture},
		{"one that may not be, below the horizon", api.Range{From: "b", To: "a"}, 1, nil, api.ErrArg},
		{"one that may not be, above the last revision", api.Range{From: "b", To: "a"}, 6, nil, api.ErrArg},
	}
	m, p := five(t)
	for _, c := range cases {
		tells(t, m, reads(c.r, c.rev), api.Resp{H: head(6, 5, 2), Err: c.err, L: c.want})
		if t.Failed() {
			t.Fatal(c.name)
		}
	}
	agrees(t, m, p, ranges()...)
}

// At 0 the last revision is read, also where 0 is the last one, and where the horizon is the last one.
func TestRangesAtZero(t *testing.T) {
	m, _ := made(t)
	tells(t, m, reads(all, 0), api.Resp{})
	m.Serve(does(put("a", "x")))
	tells(t, m, reads(all, 0), api.Resp{H: head(1, 1, 0), L: kvs(kv("a", "x", 1))})
	m.Serve(compacts(1))
	tells(t, m, reads(all, 0), api.Resp{H: head(2, 1, 1), L: kvs(kv("a", "x", 1))})
	tells(t, m, reads(all, 1), api.Resp{H: head(2, 1, 1), L: kvs(kv("a", "x", 1))})
	m.Serve(does(del("a")))
	tells(t, m, reads(all, 0), api.Resp{H: head(3, 2, 1)})
}

func TestExample(t *testing.T) {
	m := model.New()
	tells(t, m, txn.Put("k", "v"), api.Resp{H: head(1, 1, 0), Ok: true})
	tells(t, m, reads(key.One("k"), 1), api.Resp{H: head(1, 1, 0), L: kvs(kv("k", "v", 1))})
}

// The document's examples 4, 5 and 8, asked of the model one by one.
func TestExamplesOfTheWhole(t *testing.T) {
	m := model.New()
	m.Serve(txn.Put("a", "x"))
	m.Serve(txn.Del("a"))
	tells(t, m, reads(all, 0), api.Resp{H: head(2, 2, 0)})
	tells(t, m, reads(all, 1), api.Resp{H: head(2, 2, 0), L: kvs(kv("a", "x", 1))})
	m, _ = sixteen(t)
	tells(t, m, txn.Put("a", "x"), api.Resp{H: head(17, 16, 0), Err: api.ErrFull})
	m = model.New()
	m.Serve(txn.Put("a", "x"))
	tells(t, m, txn.Swap("a", "x", "y"), api.Resp{H: head(2, 2, 0), Ok: true})
	tells(t, m, txn.Swap("a", "x", "z"), api.Resp{H: head(3, 2, 0)})
	tells(t, m, reads(all, 0), api.Resp{H: head(3, 2, 0), L: kvs(kv("a", "y", 2))})
}

// P8.3.

// requests are those of which runs are made: what changes something, what doesn't, what is refused, what reads.
func requests() []api.Req {
	return []api.Req{
		does(put("a", "1"), put("b", "1")),
		does(del("a")),
		of(cmps(has("a", "1"), at("b", 1)), ops(put("b", "2")), ops(put("a", "1"), del("b"))),
		of(cmps(at("a", 0)), nil, ops(del("b"), put("c", ""))),
		compacts(0),
		compacts(1),
		compacts(2),
		reads(all, 0),
		reads(key.One("b"), 1),
		reads(all, 2),
		does(put("", "")),
	}
}

func TestInEveryWay(t *testing.T) {
	l := requests()
	for first := range l {
		for second := range l {
			for third := range l {
				for fourth := range l {
					m, p := model.New(), &plain{}
					for _, i := range []int{first, second, third, fourth} {
						both(t, m, p, l[i])
					}
					agrees(t, m, p, all, key.One("b"))
					if t.Failed() {
						t.Fatalf("behind the requests %d, %d, %d, %d", first, second, third, fourth)
					}
				}
			}
		}
	}
}

// chance are numbers that jump about, the same ones each time.
type chance uint32

func (c *chance) below(n int) int {
	*c = *c*1664525 + 1013904223
	return int(*c>>16) % n
}

// drawn is a request of a run, near to where the model stands.
func drawn(c *chance, h api.Head) api.Req {
	name := func() string { return string([]byte{byte('a' + c.below(5))}) }
	val := func() string { return string([]byte{byte('0' + c.below(3))}) }
	change := func() []api.Op {
		var l []api.Op
		for range c.below(5) {
			o := put(name(), val())
			if c.below(3) == 0 {
				o = del(o.Key)
			}
			l = append(l, o)
		}
		if c.below(8) > 0 { // mostly each key once, so that the request may be
			slices.SortFunc(l, func(a, b api.Op) int { return strings.Compare(a.Key, b.Key) })
			l = slices.CompactFunc(l, func(a, b api.Op) bool { return a.Key == b.Key })
		}
		return l
	}
	near := func() int { return h.Hor - 2 + c.below(h.Rev-h.Hor+5) }
	switch c.below(8) {
	case 0:
		return reads(api.Range{From: name()}, near())
	case 1:
		return reads(api.Range{To: name()}, near())
	case 2:
		return compacts(near())
	case 3:
		return of(cmps(has(name(), val())), change(), change())
	case 4:
		return of(cmps(at(name(), max(0, near()))), change(), change())
	}
	return does(change()...)
}

func TestLongRuns(t *testing.T) {
	told := map[api.Errno]int{}
	for seed := range 4 {
		c := chance(seed)
		m, p := made(t)
		for range 4000 {
			was := m.Head()
			q := drawn(&c, was)
			a := m.Serve(q)
			if want := p.serve(q); !same(a, want) {
				t.Fatalf("run %d, behind %v: Serve(%v): %v, not %v", seed, was, q, a, want)
			}
			told[a.Err]++
			rises(t, q, was, a)
			if t.Failed() {
				t.Fatalf("run %d, behind %v: Serve(%v): %v", seed, was, q, a)
			}
		}
		agrees(t, m, p, all)
	}
	for _, err := range []api.Errno{api.OK, api.ErrArg, api.ErrFull, api.ErrOld, api.ErrFuture, api.ErrOver} {
		if told[err] == 0 {
			t.Errorf("no request of the runs was answered %v", err)
		}
	}
}

// rises looks that Seq, Rev and Hor are as they may be behind an answer.
func rises(t *testing.T, q api.Req, was api.Head, a api.Resp) {
	t.Helper()
	seq := was.Seq
	if txn.May(q) == api.OK && q.Kind != api.ReqRange {
		seq++
	}
	if a.H.Seq != seq || a.H.Rev < was.Rev || a.H.Hor < was.Hor {
		t.Errorf("H is %v", a.H)
	}
	if a.H.Hor > a.H.Rev || a.H.Rev > a.H.Hor+16 || a.H.Rev > 1000 || a.H.Rev > was.Rev+1 {
		t.Errorf("H is %v", a.H)
	}
	if (a.Err != api.OK || q.Kind == api.ReqRange) && (a.H.Rev != was.Rev || a.H.Hor != was.Hor) {
		t.Errorf("H is %v, though nothing is changed", a.H)
	}
	if a.Err != api.OK && (a.Ok || a.L != nil) || a.Ok && q.Kind != api.ReqTxn || len(a.L) > 0 && q.Kind != api.ReqRange {
		t.Errorf("what has no meaning there is told")
	}
}

func TestWhatIsRefusedChangesNothing(t *testing.T) {
	m, p := sixteen(t)
	for _, q := range slices.Concat(changing(), []api.Req{compacts(17), compacts(math.MaxInt)}) {
		if a := m.Serve(q); a.Err == api.OK {
			t.Fatalf("Serve(%v): %v", q, a)
		}
		p.seq++
		agrees(t, m, p, all, key.One("n"), key.One("a"))
	}
	for _, q := range slices.Concat(wrong(), []api.Req{reads(all, 17), reads(all, 1000), reads(all, 0), reads(key.One("n"), 16)}) {
		m.Serve(q)
	}
	agrees(t, m, p, all)
}

// P4: what there is at a revision stays, whatever else is done, up to the horizon.
func TestWhatThereIsStays(t *testing.T) {
	c := chance(7)
	m, _ := made(t)
	was := map[int][]api.KV{}
	for range 2000 {
		m.Serve(drawn(&c, m.Head()))
		h := m.Head()
		if _, ok := was[h.Rev]; !ok {
			was[h.Rev] = m.Serve(reads(all, 0)).L
		}
		for rev, l := range was {
			if rev < h.Hor && rev > 0 {
				tells(t, m, reads(all, rev), api.Resp{H: h, Err: api.ErrOld})
				delete(was, rev)
			} else if rev > 0 {
				tells(t, m, reads(all, rev), api.Resp{H: h, L: l})
			}
		}
	}
}

// P5: from each revision that isn't below the horizon on, Hist's events make of what there was what there is.
func TestFoldedEvents(t *testing.T) {
	m, p := five(t)
	h := m.Hist()
	for from := p.hor; from <= len(p.rows); from++ {
		l := m.Serve(reads(all, from)).L
		for rev := from + 1; rev <= len(p.rows); rev++ {
			e, _ := h.Events(rev)
			l = event.Fold(l, e)
		}
		if want := m.Serve(reads(all, 0)).L; !slices.Equal(l, want) {
			t.Errorf("folded from %d on: %v, not %v", from, l, want)
		}
	}
}

// R2 to R4.

// spoil is what a caller may do to what it was told, and to what it handed in.
func spoil[T any](l []T) { clear(l[:cap(l)]) }

// roomy is a list with room behind it, so that what is added there would be seen.
func roomy[T any](l ...T) []T { return append(make([]T, 0, len(l)+4), l...) }

func TestWhatIsHandedInStays(t *testing.T) {
	fresh := func() api.Req {
		return of(roomy(has("b", "1"), at("a", 1)), roomy(put("c", "3"), del("x"), del("a")), roomy(put("b", "4"), del("y")))
	}
	for _, kind := range []int{api.ReqTxn, api.ReqRange, api.ReqCompact, 0, 4} {
		for _, holds := range []bool{true, false} {
			m, _ := made(t, does(put("b", "1"), put("a", "1")))
			q, want := fresh(), fresh()
			if !holds {
				q.Cmps[1].Rev, want.Cmps[1].Rev = 2, 2
			}
			q.Kind = kind
			m.Serve(q)
			if !slices.Equal(q.Cmps[:6], want.Cmps[:6]) || !slices.Equal(q.Then[:7], want.Then[:7]) || !slices.Equal(q.Else[:6], want.Else[:6]) {
				t.Errorf("of the Kind %d: %v was handed in, behind it: %v", kind, want, q)
			}
		}
	}
}

func TestWhatIsHandedInIsNotKept(t *testing.T) {
	for _, other := range []int{1, 2} {
		m, p := made(t, does(put("b", "1"), put("a", "1")))
		q := of(roomy(at("a", other)), roomy(put("c", "3"), del("a")), roomy(put("b", "4"), put("d", "5")))
		both(t, m, p, q)
		spoil(q.Cmps)
		spoil(q.Then)
		spoil(q.Else)
		agrees(t, m, p, ranges()...)
	}
}

func TestWhatIsToldIsTheCallersOwn(t *testing.T) {
	m, p := five(t)
	for rev := range 6 {
		for _, r := range ranges() {
			a, b := m.Serve(reads(r, rev)), m.Serve(reads(r, rev))
			want := slices.Clone(b.L)
			spoil(a.L)
			if !slices.Equal(b.L, want) {
				t.Errorf("%q at %d: told twice, the one is changed with the other", r, rev)
			}
			h := m.Hist()
			e, _ := h.Events(5)
			l, _ := h.At(max(rev, 2), r)
			spoil(e)
			spoil(l)
		}
	}
	agrees(t, m, p, ranges()...)
}

func TestNilAndEmpty(t *testing.T) {
	nils, empties := of(nil, nil, nil), of([]api.Cmp{}, []api.Op{}, []api.Op{})
	for _, q := range []api.Req{nils, empties} {
		m, _ := some(t)
		tells(t, m, q, api.Resp{H: head(5, 3, 1), Ok: true})
	}
	m, _ := some(t)
	tells(t, m, of([]api.Cmp{}, ops(put("a", "1")), []api.Op{}), api.Resp{H: head(5, 4, 1), Ok: true})
	tells(t, m, of(cmps(at("a", 0)), []api.Op{}, ops(put("a", "2"))), api.Resp{H: head(6, 5, 1)})
}

func TestAskedAgain(t *testing.T) {
	c := chance(3)
	a, b := model.New(), model.New()
	for range 1500 {
		q := drawn(&c, a.Head())
		x := a.Serve(q)
		if y := b.Serve(q); !same(x, y) {
			t.Fatalf("Serve(%v): %v, and of another one: %v", q, x, y)
		}
		r := reads(all, 0)
		x = a.Serve(r)
		if y := a.Serve(r); !same(x, y) || a.Head() != b.Head() {
			t.Fatalf("Serve(%v): %v, and again: %v", r, x, y)
		}
	}
}

// P1: whatever is handed in.
func TestNoCallPanics(t *testing.T) {
	m, p := some(t)
	texts := []string{"", "a", "b", "zzzzzzzz", "a23456789", "\x00", "\xff\xff\xff\xff\xff\xff\xff\xff", long()}
	for _, x := range texts {
		for _, y := range texts {
			for kind := -1; kind < 5; kind++ {
				for _, rev := range append(far(), 0, 1, 2, 3, 4, 999, 1000) {
					q := api.Req{
						Kind: kind, R: api.Range{From: x, To: y}, Rev: rev,
						Cmps: cmps(has(x, y), at(y, rev)), Then: ops(put(x, y), del(y)), Else: ops(del(x), put(y, x)),
					}
					both(t, m, p, q)
				}
			}
		}
	}
	agrees(t, m, p, all)
}

// As many keys as there can be: four of each revision.
func TestManyKeys(t *testing.T) {
	m := model.New()
	for i := range 1000 {
		if i >= 16 {
			m.Serve(compacts(i - 15))
		}
		k := number(i)
		a := m.Serve(does(put("d"+k, "4"), put("a"+k, "1"), put("c"+k, "3"), put("b"+k, "2")))
		if a.Err != api.OK || !a.Ok || a.H.Rev != i+1 {
			t.Fatalf("at the revision %d: %v", i+1, a)
		}
	}
	for _, rev := range []int{0, 984, 985, 999, 1000} {
		var want []api.KV
		for _, p := range []string{"a1", "b2", "c3", "d4"} {
			var l []api.KV
			for i := range 1000 {
				if rev == 0 || i < rev {
					l = append(l, kv(p[:1]+number(i), p[1:], i+1))
				}
			}
			tells(t, m, reads(key.Prefix(p[:1]), rev), api.Resp{H: head(1984, 1000, 984), L: l})
			want = append(want, l...)
		}
		tells(t, m, reads(all, rev), api.Resp{H: head(1984, 1000, 984), L: want})
	}
}
