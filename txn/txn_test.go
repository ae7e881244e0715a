package txn_test

import (
	"math"
	"slices"
	"strings"
	"testing"

	"impost/api"
	"impost/event"
	"impost/key"
	"impost/txn"
)

func put(k, v string) api.Op { return api.Op{Key: k, Val: v} }

func del(k string) api.Op { return api.Op{Key: k, Del: true} }

func ops(l ...api.Op) []api.Op { return l }

// has asks whether a key has a value, at whether it was put at a revision.
func has(k, v string) api.Cmp { return api.Cmp{Kind: 1, Key: k, Val: v} }

func at(k string, rev int) api.Cmp { return api.Cmp{Kind: 2, Key: k, Rev: rev} }

func cmps(l ...api.Cmp) []api.Cmp { return l }

func kv(k, v string, rev int) api.KV { return api.KV{Key: k, Val: v, Rev: rev} }

func kvs(l ...api.KV) []api.KV { return l }

// of is a transaction, reads a range, compacts a compaction.
func of(c []api.Cmp, then, other []api.Op) api.Req {
	return api.Req{Kind: api.ReqTxn, Cmps: c, Then: then, Else: other}
}

func reads(r api.Range, rev int) api.Req { return api.Req{Kind: api.ReqRange, R: r, Rev: rev} }

func compacts(rev int) api.Req { return api.Req{Kind: api.ReqCompact, Rev: rev} }

// long is a text that is far longer than any key or value may be.
func long() string { return strings.Repeat("k", 1<<16) }

// numbers are those around 0 and around the limits, and some that are far from any.
func numbers() []int {
	return []int{math.MinInt, math.MinInt32, -1 << 40, -2, -1, 0, 1, 2, 3, 4, 999, 1000, 1001, 1 << 40, math.MaxInt32, math.MaxInt}
}

// sames are requests that are the same, nil and empty lists being the same.
func sames(a, b api.Req) bool {
	return a.Kind == b.Kind && a.R == b.R && a.Rev == b.Rev &&
		slices.Equal(a.Cmps, b.Cmps) && slices.Equal(a.Then, b.Then) && slices.Equal(a.Else, b.Else)
}

// lists are all of so many at most, of those that are handed in, the empty one among them.
func lists[T any](most int, of ...T) [][]T {
	all, row := [][]T{nil}, [][]T{nil}
	for range most {
		var next [][]T
		for _, l := range row {
			for _, x := range of {
				next = append(next, append(slices.Clone(l), x))
			}
		}
		all, row = append(all, next...), next
	}
	return all
}

// maybe, keys, holding and planned are the chapter's words, without what the program is made of.
func maybe(q api.Req) bool {
	switch q.Kind {
	case 1:
		for _, c := range q.Cmps {
			if len(c.Key) == 0 || len(c.Key) > 8 || c.Kind < 1 || c.Kind > 2 || len(c.Val) > 8 || c.Rev < 0 {
				return false
			}
		}
		return len(q.Cmps) <= 4 && maybeOps(q.Then) && maybeOps(q.Else)
	case 2:
		return key.MayRange(q.R) && q.Rev >= 0
	case 3:
		return q.Rev >= 0
	}
	return false
}

func maybeOps(l []api.Op) bool {
	for i, o := range l {
		if len(o.Key) == 0 || len(o.Key) > 8 || len(o.Val) > 8 || o.Del && len(o.Val) > 0 {
			return false
		}
		for _, other := range l[:i] {
			if other.Key == o.Key {
				return false
			}
		}
	}
	return len(l) <= 4
}

func keys(q api.Req) []string {
	var told []string
	add := func(k string) {
		i := 0
		for i < len(told) && told[i] < k {
			i++
		}
		if i == len(told) || told[i] != k {
			told = slices.Insert(told, i, k)
		}
	}
	for _, c := range q.Cmps {
		add(c.Key)
	}
	for _, o := range q.Then {
		add(o.Key)
	}
	for _, o := range q.Else {
		add(o.Key)
	}
	return told
}

func holding(m []api.KV, l []api.Cmp) bool {
	for _, c := range l {
		ok := c.Kind == 2 && c.Rev == 0
		for _, x := range m {
			if x.Key == c.Key {
				ok = c.Kind == 1 && x.Val == c.Val || c.Kind == 2 && c.Rev != 0 && x.Rev == c.Rev
			}
		}
		if !ok {
			return false
		}
	}
	return true
}

func planned(m []api.KV, q api.Req) (bool, []api.Op) {
	ok := holding(m, q.Cmps)
	l := q.Else
	if ok {
		l = q.Then
	}
	var told []api.Op
	for _, o := range l {
		there := slices.ContainsFunc(m, func(x api.KV) bool { return x.Key == o.Key })
		if there || !o.Del {
			told = append(told, o)
		}
	}
	return ok, told
}

// may looks that a request may be, or mayn't.
func may(t *testing.T, name string, q api.Req, ok bool) {
	t.Helper()
	want := api.ErrArg
	if ok {
		want = api.OK
	}
	if err := txn.May(q); err != want {
		t.Errorf("%s: May(%.200v): %v, not %v", name, q, err, want)
	}
}

// everywhere are transactions that have compares at each place of Cmps, among others that may be.
func everywhere(c api.Cmp) []api.Req {
	var l []api.Req
	for n := 1; n <= 4; n++ {
		for i := range n {
			q := of(cmps(has("w", "1"), at("x", 1), has("y", "2"), at("z", 0))[:n], ops(put("a", "1")), ops(del("b")))
			q.Cmps[i] = c
			l = append(l, q)
		}
	}
	return l
}

// anywhere are transactions that have an op at each place of Then, and of Else, among others that may be.
func anywhere(o api.Op) []api.Req {
	var l []api.Req
	for n := 1; n <= 4; n++ {
		for i := range n {
			row := ops(put("w", "1"), del("x"), put("y", "2"), del("z"))[:n]
			row[i] = o
			l = append(l, of(cmps(has("a", "1")), row, ops(del("b"))), of(cmps(has("a", "1")), ops(del("b")), row))
		}
	}
	return l
}

// P7.1: each Kind, and those that are none.

func TestMayByKind(t *testing.T) {
	if api.ReqTxn != 1 || api.ReqRange != 2 || api.ReqCompact != 3 {
		t.Fatalf("Kinds %d, %d, %d", api.ReqTxn, api.ReqRange, api.ReqCompact)
	}
	full := api.Req{R: key.One("a"), Rev: 1, Cmps: cmps(has("a", "x")), Then: ops(put("a", "y")), Else: ops(del("a"))}
	for _, kind := range append(numbers(), -3, 5, 6, 7, 8, 255, 256, 257, 258, 259, 1<<32+1, 1<<32+2, 1<<32+3) {
		for _, q := range []api.Req{{}, full} {
			q.Kind = kind
			may(t, "by its Kind", q, kind >= 1 && kind <= 3)
		}
	}
}

// P7.1: of a ReqTxn.

func TestMayOfLists(t *testing.T) {
	if api.MaxOps != 4 || api.MaxKey != 8 || api.MaxVal != 8 {
		t.Fatalf("MaxOps, MaxKey, MaxVal: %d, %d, %d", api.MaxOps, api.MaxKey, api.MaxVal)
	}
	for a := range 8 {
		for b := range 8 {
			for c := range 8 {
				may(t, "by lengths", of(compares(a), puts(b), deletions(c)), a <= 4 && b <= 4 && c <= 4)
			}
		}
	}
	for _, n := range []int{255, 256, 257, 1 << 16} {
		may(t, "far too many compares", of(compares(n), nil, nil), false)
		may(t, "far too many of Then", of(nil, puts(n), nil), false)
		may(t, "far too many of Else", of(nil, nil, deletions(n)), false)
	}
}

// numbered is a key that is another one for each number.
func numbered(i int) string {
	return string([]byte{byte('a' + i>>12&15), byte('a' + i>>8&15), byte('a' + i>>4&15), byte('a' + i&15)})
}

func compares(n int) []api.Cmp {
	var l []api.Cmp
	for i := range n {
		l = append(l, has(numbered(i), "v"))
	}
	return l
}

func puts(n int) []api.Op {
	var l []api.Op
	for i := range n {
		l = append(l, put(numbered(i), "v"))
	}
	return l
}

func deletions(n int) []api.Op {
	var l []api.Op
	for i := range n {
		l = append(l, del(numbered(i)))
	}
	return l
}

func TestMayOfKeys(t *testing.T) {
	cases := []struct {
		k  string
		ok bool
	}{
		{"", false},
		{"a", true},
		{"\x00", true},
		{"\xff", true},
		{"k2345678", true},
		{"k2345678\x00", false},
		{"k23456789", false},
		{"\xff\xff\xff\xff\xff\xff\xff\xff", true},
		{"\xff\xff\xff\xff\xff\xff\xff\xff\xff", false},
		{"éééé", true},
		{"ééééé", false},
		{long(), false},
	}
	for _, c := range cases {
		for _, cmp := range cmps(has(c.k, "v"), has(c.k, ""), at(c.k, 1), at(c.k, 0)) {
			for _, q := range everywhere(cmp) {
				may(t, "a compare's key", q, c.ok)
			}
		}
		for _, o := range ops(put(c.k, "v"), put(c.k, ""), del(c.k)) {
			for _, q := range anywhere(o) {
				may(t, "an op's key", q, c.ok)
			}
		}
		may(t, "in each of the three", of(cmps(has(c.k, "v")), ops(put(c.k, "v")), ops(del(c.k))), c.ok)
	}
}

func TestMayOfCompareKinds(t *testing.T) {
	for _, kind := range append(numbers(), 255, 256, 257, 258, 1<<32+1, 1<<32+2) {
		for _, q := range everywhere(api.Cmp{Kind: kind, Key: "k", Val: "v", Rev: 1}) {
			may(t, "a compare's Kind", q, kind == 1 || kind == 2)
		}
		for _, q := range everywhere(api.Cmp{Kind: kind, Key: "k"}) {
			may(t, "a compare's Kind, with nothing else", q, kind == 1 || kind == 2)
		}
	}
}

func TestMayOfValues(t *testing.T) {
	cases := []struct {
		v  string
		ok bool
	}{
		{"", true},
		{"v", true},
		{"\x00", true},
		{"v2345678", true},
		{"v23456789", false},
		{"v2345678\x00", false},
		{"\x00\x00\x00\x00\x00\x00\x00\x00", true},
		{"\x00\x00\x00\x00\x00\x00\x00\x00\x00", false},
		{"\xff\xff\xff\xff\xff\xff\xff\xff", true},
		{"\xff\xff\xff\xff\xff\xff\xff\xff\xff", false},
		{"éééé", true},
		{"ééééé", false},
		{strings.Repeat("v", 256), false},
		{strings.Repeat("v", 264), false},
		{long(), false},
	}
	for _, c := range cases {
		for _, kind := range []int{1, 2} {
			for _, q := range everywhere(api.Cmp{Kind: kind, Key: "k", Val: c.v}) {
				may(t, "a compare's value", q, c.ok)
			}
		}
		for _, q := range anywhere(put("k", c.v)) {
			may(t, "a value that is put", q, c.ok)
		}
		for _, q := range anywhere(api.Op{Key: "k", Val: c.v, Del: true}) {
			may(t, "a deletion's value", q, c.v == "")
		}
	}
}

// A revision that isn't below 0 may be, also one above any that there is.
func TestMayOfCompareRevs(t *testing.T) {
	for _, rev := range numbers() {
		for _, kind := range []int{1, 2} {
			for _, q := range everywhere(api.Cmp{Kind: kind, Key: "k", Val: "v", Rev: rev}) {
				may(t, "a compare's Rev", q, rev >= 0)
			}
		}
	}
}

// Two ops of one key, at each two places of one list, whatever they do; there is one in each, too.
func TestMayOfOneKeyTwice(t *testing.T) {
	pairs := [][]api.Op{
		{put("k", "1"), put("k", "2")}, {put("k", "1"), put("k", "1")}, {put("k", "1"), del("k")},
		{del("k"), put("k", "1")}, {del("k"), del("k")},
	}
	for _, p := range pairs {
		for n := 2; n <= 4; n++ {
			for i := range n {
				for j := range i {
					row := ops(put("w", "1"), del("x"), put("y", "2"), del("z"))[:n]
					row[j], row[i] = p[0], p[1]
					may(t, "twice in Then", of(nil, row, nil), false)
					may(t, "twice in Else", of(nil, nil, row), false)
					may(t, "twice in both", of(nil, row, row), false)
					one := slices.Clone(row)
					one[j] = put("v", "1")
					may(t, "once in Then", of(nil, one, nil), true)
					may(t, "once in each", of(nil, one, one), true)
				}
			}
		}
		may(t, "one in each", of(nil, p[:1], p[1:]), true)
		may(t, "one in each, and compared", of(cmps(has("k", "1"), at("k", 1)), p[:1], p[1:]), true)
	}
	may(t, "a key that begins as another one", of(nil, ops(put("k", "1"), put("kk", "1"), put("k\x00", "1"), put("K", "1")), nil), true)
	may(t, "all ops of one key", of(nil, ops(del("k"), del("k"), del("k"), del("k")), nil), false)
}

func TestMayOfComparesOfOneKey(t *testing.T) {
	pool := cmps(has("k", "1"), has("k", "2"), has("k", ""), at("k", 0), at("k", 1), at("k", 2))
	for _, l := range lists(4, pool...) {
		may(t, "compares of one key", of(l, ops(put("k", "3")), ops(del("k"))), true)
	}
}

// P7.1: of a ReqRange, and of a ReqCompact.

func TestMayOfRanges(t *testing.T) {
	cases := []struct {
		name string
		r    api.Range
		ok   bool
	}{
		{"of all keys", api.Range{}, true},
		{"no To", api.Range{From: "a"}, true},
		{"no From", api.Range{To: "b"}, true},
		{"both", api.Range{From: "a", To: "b"}, true},
		{"of one key", key.One("a"), true},
		{"of one key of 8", key.One("a2345678"), true},
		{"of a prefix", key.Prefix("a\xff"), true},
		{"Empty", api.Range{From: "b", To: "a"}, false},
		{"Empty, To at From", api.Range{From: "a", To: "a"}, false},
		{"From of 9", api.Range{From: "a23456789"}, false},
		{"To of 9", api.Range{To: "a23456789"}, false},
		{"To of 10", api.Range{To: "a23456789\x00"}, false},
		{"of one key of 9", key.One("a23456789"), false},
		{"long From", api.Range{From: long()}, false},
		{"long To", api.Range{To: long()}, false},
	}
	for _, c := range cases {
		for _, rev := range numbers() {
			may(t, c.name, reads(c.r, rev), c.ok && rev >= 0)
		}
	}
}

func TestMayOfCompactions(t *testing.T) {
	for _, rev := range numbers() {
		may(t, "a compaction", compacts(rev), rev >= 0)
	}
}

// P7.1: what a Kind doesn't use plays no part, whatever it is filled with.
func TestMayOfWhatAKindDoesNotUse(t *testing.T) {
	bad := cmps(api.Cmp{}, api.Cmp{Kind: 3, Key: "k"}, api.Cmp{Kind: 1, Key: long(), Val: long(), Rev: -1})
	odd := ops(put("", ""), put(long(), long()), api.Op{Key: "k", Val: "v", Del: true}, del("k"))
	ranges := []api.Range{{}, {From: "a"}, {From: "b", To: "a"}, {From: long()}, {To: long()}, {From: "a23456789", To: "b23456789"}}
	for _, rev := range numbers() {
		for _, r := range ranges {
			q := api.Req{Kind: api.ReqTxn, R: r, Rev: rev}
			may(t, "a transaction of nothing", q, true)
			q.Cmps, q.Then, q.Else = cmps(has("k", "v")), ops(put("k", "w")), ops(del("k"))
			may(t, "a transaction", q, true)
		}
	}
	for _, c := range [][]api.Cmp{nil, bad, compares(5), compares(1 << 10)} {
		for _, l := range [][]api.Op{nil, odd, puts(5), deletions(1 << 10), {del("k"), del("k")}} {
			for _, other := range [][]api.Op{nil, odd, deletions(5)} {
				q := api.Req{R: key.One("a"), Rev: 1, Cmps: c, Then: l, Else: other}
				q.Kind = api.ReqRange
				may(t, "a range", q, true)
				for _, r := range ranges {
					q.Kind, q.R = api.ReqCompact, r
					may(t, "a compaction", q, true)
				}
			}
		}
	}
}

// What may not be stays so, whatever it has beside.
func TestMayOfAllThatMayNotBe(t *testing.T) {
	bad := of(cmps(has("", "v")), ops(put("k", "1"), put("k", "2")), ops(api.Op{Key: "k", Val: "v", Del: true}))
	bad.R, bad.Rev = api.Range{From: "b", To: "a"}, -1
	for _, kind := range numbers() {
		bad.Kind = kind
		may(t, "all of it", bad, false)
	}
}

// pool are some compares, and some ops, that may be, and some that may not.
func pool() ([]api.Cmp, []api.Op) {
	c := cmps(has("a", "1"), has("b", ""), at("a", 0), at("b", 2), has("", "1"), has("a", "123456789"), at("b", -1), api.Cmp{Kind: 3, Key: "a"}, api.Cmp{Key: "b"})
	return c, ops(put("a", "1"), put("b", ""), del("a"), del("b"), del("b23456789"), put("a", "123456789"), api.Op{Key: "a", Val: "1", Del: true})
}

func TestMayInEveryWay(t *testing.T) {
	c, o := pool()
	rows := lists(2, o...)
	for _, l := range lists(2, c...) {
		for _, then := range rows {
			for _, other := range rows {
				q := of(l, then, other)
				if err := txn.May(q); (err == api.OK) != maybe(q) || err != api.OK && err != api.ErrArg {
					t.Fatalf("May(%v): %v", q, err)
				}
			}
		}
	}
}

// P7.2: Keys.

func TestKeys(t *testing.T) {
	const k8, k9 = "k2345678", "k23456789"
	cases := []struct {
		name string
		q    api.Req
		want []string
	}{
		{"none", of(nil, nil, nil), nil},
		{"none, of empty lists", of(cmps(), ops(), ops()), nil},
		{"one of Cmps", of(cmps(has("a", "1")), nil, nil), []string{"a"}},
		{"one of Then", of(nil, ops(put("a", "1")), nil), []string{"a"}},
		{"one of Else", of(nil, nil, ops(del("a"))), []string{"a"}},
		{"the same in each", of(cmps(has("a", "1")), ops(put("a", "2")), ops(del("a"))), []string{"a"}},
		{"the same twice in each", of(cmps(has("a", "1"), at("a", 0)), ops(put("a", "2"), del("a")), ops(del("a"), put("a", ""))), []string{"a"}},
		{"one in each", of(cmps(has("b", "1")), ops(put("c", "2")), ops(del("a"))), []string{"a", "b", "c"}},
		{"falling, over the three", of(cmps(has("f", "1"), at("e", 0)), ops(put("d", "2"), del("c")), ops(del("b"), put("a", "1"))), []string{"a", "b", "c", "d", "e", "f"}},
		{"falling, in Cmps", of(cmps(at("d", 1), at("c", 1), at("b", 1), at("a", 1)), nil, nil), []string{"a", "b", "c", "d"}},
		{"falling, in Then", of(nil, ops(del("d"), del("c"), del("b"), del("a")), nil), []string{"a", "b", "c", "d"}},
		{"falling, in Else", of(nil, nil, ops(put("d", ""), put("c", ""), put("b", ""), put("a", ""))), []string{"a", "b", "c", "d"}},
		{"twelve", of(cmps(has("l", ""), has("a", ""), has("k", ""), has("b", "")), ops(del("j"), del("c"), del("i"), del("d")), ops(del("h"), del("e"), del("g"), del("f"))), strings.Split("abcdefghijkl", "")},
		{"byte by byte", of(cmps(has("\x80", ""), has("\x7f\xff", "")), ops(del("\xff"), del("b\x00"), del("b")), ops(del("\x00"), del("aa"), del("B"))), []string{"\x00", "B", "aa", "b", "b\x00", "\x7f\xff", "\x80", "\xff"}},
		{"keys that may not be", of(cmps(has("", "")), ops(del(k9), del(k8)), ops(del(""))), []string{"", k8, k9}},
		{"compares of whatever Kind", of(cmps(api.Cmp{Kind: 0, Key: "c"}, api.Cmp{Kind: 3, Key: "b"}, api.Cmp{Kind: -1, Key: "a"}), nil, nil), []string{"a", "b", "c"}},
		{"what isn't a key", of(cmps(api.Cmp{Kind: 1, Key: "a", Val: "v", Rev: 1}), ops(put("a", "w")), nil), []string{"a"}},
		{"a long one", of(cmps(has(long(), "")), ops(del("k")), nil), []string{"k", long()}},
	}
	for _, c := range cases {
		if got := txn.Keys(c.q); !slices.Equal(got, c.want) {
			t.Errorf("%s: Keys: %.200q, not %.200q", c.name, got, c.want)
		}
	}
}

// The chapter says of which lists the keys are, and of no Kind that it has others; a range's ends are no keys.
func TestKeysOfEachKind(t *testing.T) {
	for _, kind := range numbers() {
		q := of(cmps(has("b", "1")), ops(put("c", "2")), ops(del("a")))
		q.Kind, q.R, q.Rev = kind, api.Range{From: "d", To: "e"}, 1
		if got := txn.Keys(q); !slices.Equal(got, []string{"a", "b", "c"}) {
			t.Errorf("of the Kind %d: Keys: %q", kind, got)
		}
		if got := txn.Keys(api.Req{Kind: kind, R: q.R, Rev: 1}); len(got) != 0 {
			t.Errorf("of the Kind %d, without lists: Keys: %q", kind, got)
		}
	}
}

func TestKeysInEveryWay(t *testing.T) {
	names := []string{"a", "b", "a\x00", "\xff", ""}
	var c []api.Cmp
	var o []api.Op
	for _, k := range names {
		c, o = append(c, has(k, "v")), append(o, del(k))
	}
	for _, l := range lists(2, c...) {
		for _, then := range lists(2, o...) {
			for _, other := range lists(2, o...) {
				q := of(l, then, other)
				if got := txn.Keys(q); !slices.Equal(got, keys(q)) {
					t.Fatalf("Keys(%v): %q", q, got)
				}
			}
		}
	}
}

func TestKeysOfFarMore(t *testing.T) {
	const n = 1 << 16
	c, then, other := compares(n), puts(n), deletions(n)
	slices.Reverse(c)
	slices.Reverse(other)
	got := txn.Keys(of(c, then, other))
	if len(got) != n {
		t.Fatalf("%d keys, of %d", len(got), n)
	}
	for i, k := range got {
		if k != numbered(i) {
			t.Fatalf("the key %d is %q", i, k)
		}
	}
}

// P7.2: Holds.

// some is a map of three keys; that of "c" has no value.
func some() []api.KV { return kvs(kv("a", "x", 1), kv("b", "y", 2), kv("c", "", 3)) }

func TestHolds(t *testing.T) {
	cases := []struct {
		name string
		l    []api.Cmp
		ok   bool
	}{
		{"no compares", nil, true},
		{"an empty list", cmps(), true},
		{"its value", cmps(has("a", "x")), true},
		{"another value", cmps(has("a", "y")), false},
		{"no value", cmps(has("a", "")), false},
		{"a value that begins so", cmps(has("a", "xx")), false},
		{"no value, of a key without one", cmps(has("c", "")), true},
		{"a value, of a key without one", cmps(has("c", "x")), false},
		{"a value, of a key that isn't there", cmps(has("d", "x")), false},
		{"no value, of a key that isn't there", cmps(has("d", "")), false},
		{"a value, of a key that is below all", cmps(has("A", "x")), false},
		{"a value, of a key between", cmps(has("aa", "x")), false},
		{"a value, with another revision beside", cmps(api.Cmp{Kind: 1, Key: "a", Val: "x", Rev: 9}), true},
		{"its revision", cmps(at("b", 2)), true},
		{"a revision below", cmps(at("b", 1)), false},
		{"a revision above", cmps(at("b", 3)), false},
		{"a revision, with another value beside", cmps(api.Cmp{Kind: 2, Key: "b", Val: "z", Rev: 2}), true},
		{"a revision, of a key that isn't there", cmps(at("d", 2)), false},
		{"absent: isn't there", cmps(at("d", 0)), true},
		{"absent: is between", cmps(at("aa", 0)), true},
		{"absent: is there", cmps(at("a", 0)), false},
		{"absent: is there, without a value", cmps(at("c", 0)), false},
		{"absent, with a value beside: isn't there", cmps(api.Cmp{Kind: 2, Key: "d", Val: "x"}), true},
		{"absent, with its value beside: is there", cmps(api.Cmp{Kind: 2, Key: "a", Val: "x"}), false},
		{"below 0: is there", cmps(at("a", -1)), false},
		{"below 0: isn't there", cmps(at("d", -1)), false},
		{"the Kind 0", cmps(api.Cmp{Key: "a", Val: "x", Rev: 1}), false},
		{"the Kind 3", cmps(api.Cmp{Kind: 3, Key: "a", Val: "x", Rev: 1}), false},
		{"the Kind 0, of a key that isn't there", cmps(api.Cmp{Key: "d"}), false},
		{"the Kind 3, of a key that isn't there", cmps(api.Cmp{Kind: 3, Key: "d"}), false},
		{"all of several", cmps(has("a", "x"), at("b", 2), at("d", 0), has("c", "")), true},
		{"two of one key", cmps(has("a", "x"), at("a", 1)), true},
		{"two of one key, one doesn't", cmps(has("a", "x"), at("a", 2)), false},
		{"one twice", cmps(has("a", "x"), has("a", "x")), true},
		{"two that can't both hold", cmps(has("a", "x"), has("a", "y")), false},
		{"the empty key", cmps(has("", "")), false},
		{"the empty key is absent", cmps(at("", 0)), true},
		{"long ones", cmps(has(long(), long())), false},
		{"a long one is absent", cmps(at(long(), 0)), true},
	}
	for _, c := range cases {
		if got := txn.Holds(some(), c.l); got != c.ok {
			t.Errorf("%s: Holds(%.200v): %v", c.name, c.l, got)
		}
	}
}

func TestHoldsOfKinds(t *testing.T) {
	for _, kind := range append(numbers(), 257, 258, 1<<32+1, 1<<32+2) {
		for _, rev := range []int{0, 1} {
			there := txn.Holds(some(), cmps(api.Cmp{Kind: kind, Key: "a", Val: "x", Rev: rev}))
			if there != (kind == 1 || kind == 2 && rev == 1) {
				t.Errorf("the Kind %d, Rev %d, of a key that is there: %v", kind, rev, there)
			}
			away := txn.Holds(some(), cmps(api.Cmp{Kind: kind, Key: "d", Rev: rev}))
			if away != (kind == 2 && rev == 0) {
				t.Errorf("the Kind %d, Rev %d, of a key that isn't there: %v", kind, rev, away)
			}
		}
	}
}

func TestHoldsOfRevs(t *testing.T) {
	for _, of := range numbers() {
		m := kvs(kv("k", "v", of))
		for _, rev := range numbers() {
			if got := txn.Holds(m, cmps(at("k", rev))); got != (rev == of && rev != 0) {
				t.Errorf("put at %d, Rev %d: %v", of, rev, got)
			}
			if got := txn.Holds(m, cmps(at("l", rev))); got != (rev == 0) {
				t.Errorf("isn't there, Rev %d: %v", rev, got)
			}
		}
	}
}

// One of several that doesn't hold, at each place.
func TestHoldsAtEachPlace(t *testing.T) {
	wrong := cmps(has("a", "y"), has("d", "x"), at("b", 1), at("b", 0), at("d", 1), api.Cmp{Key: "a", Val: "x", Rev: 1}, api.Cmp{Kind: 3, Key: "d"})
	for n := 1; n <= 6; n++ {
		right := cmps(has("a", "x"), at("b", 2), at("d", 0), has("c", ""), at("a", 1), at("e", 0))[:n]
		if !txn.Holds(some(), right) {
			t.Fatalf("Holds(%v) is false", right)
		}
		for i := range n {
			for _, c := range wrong {
				l := slices.Clone(right)
				l[i] = c
				if txn.Holds(some(), l) {
					t.Errorf("%d compares, of which that at %d doesn't hold: %v", n, i, l)
				}
			}
		}
	}
}

// Of the empty map, and of nil, just what isn't there holds.
func TestHoldsOfNothing(t *testing.T) {
	for _, m := range [][]api.KV{nil, {}} {
		for _, c := range []struct {
			l  []api.Cmp
			ok bool
		}{{nil, true}, {cmps(at("a", 0)), true}, {cmps(at("a", 0), at("b", 0)), true}, {cmps(at("a", 1)), false}, {cmps(has("a", "")), false}, {cmps(has("", "")), false}, {cmps(api.Cmp{}), false}} {
			if got := txn.Holds(m, c.l); got != c.ok {
				t.Errorf("Holds(%v, %v): %v", m, c.l, got)
			}
		}
	}
}

// maps are all of some of three keys, each put with one of two values, at one of two revisions.
func maps() [][]api.KV {
	all := [][]api.KV{nil}
	for _, k := range []string{"a", "ab", "b"} {
		for _, m := range slices.Clone(all) {
			for _, x := range kvs(kv(k, "1", 1), kv(k, "", 2)) {
				all = append(all, append(slices.Clone(m), x))
			}
		}
	}
	return all
}

func TestHoldsInEveryWay(t *testing.T) {
	var l []api.Cmp
	for _, k := range []string{"a", "ab", "b", "c"} {
		l = append(l, has(k, "1"), has(k, ""), at(k, 0), at(k, 1), at(k, 2), api.Cmp{Kind: 3, Key: k, Val: "1", Rev: 1})
	}
	for _, m := range maps() {
		for _, c := range lists(3, l...) {
			if got := txn.Holds(m, c); got != holding(m, c) {
				t.Fatalf("Holds(%v, %v): %v", m, c, got)
			}
		}
	}
}

// P7.2: Plan.

// plans looks that a plan of a map is just that.
func plans(t *testing.T, name string, m []api.KV, q api.Req, ok bool, want []api.Op) {
	t.Helper()
	if got, l := txn.Plan(m, q); got != ok || !slices.Equal(l, want) {
		t.Errorf("%s: Plan(%.200v): %v, %.200v, not %v, %.200v", name, q, got, l, ok, want)
	}
}

func TestPlan(t *testing.T) {
	yes, no := cmps(has("a", "x")), cmps(has("a", "y"))
	both := ops(put("a", "1"), del("b"), put("d", "2"), del("e"))
	kept := ops(put("a", "1"), del("b"), put("d", "2"))
	cases := []struct {
		name string
		q    api.Req
		ok   bool
		want []api.Op
	}{
		{"they hold", of(yes, ops(put("a", "1")), ops(put("a", "2"))), true, ops(put("a", "1"))},
		{"they don't", of(no, ops(put("a", "1")), ops(put("a", "2"))), false, ops(put("a", "2"))},
		{"no compares", of(nil, ops(put("a", "1")), ops(put("a", "2"))), true, ops(put("a", "1"))},
		{"they hold, Then is empty", of(yes, nil, ops(put("a", "2"))), true, nil},
		{"they don't, Then is empty", of(no, nil, ops(put("a", "2"))), false, ops(put("a", "2"))},
		{"they hold, Else is empty", of(yes, ops(put("a", "1")), nil), true, ops(put("a", "1"))},
		{"they don't, Else is empty", of(no, ops(put("a", "1")), nil), false, nil},
		{"they hold, both are empty", of(yes, nil, nil), true, nil},
		{"they don't, both are empty", of(no, nil, nil), false, nil},
		{"nothing at all", of(nil, nil, nil), true, nil},
		{"a put of a key that is there", of(nil, ops(put("b", "y")), nil), true, ops(put("b", "y"))},
		{"a put of one that isn't", of(nil, ops(put("e", "y")), nil), true, ops(put("e", "y"))},
		{"a put without a value", of(nil, ops(put("b", "")), nil), true, ops(put("b", ""))},
		{"a deletion of a key that is there", of(nil, ops(del("b")), nil), true, ops(del("b"))},
		{"a deletion of one that is there without a value", of(nil, ops(del("c")), nil), true, ops(del("c"))},
		{"a deletion of one that isn't", of(nil, ops(del("e")), nil), true, nil},
		{"a deletion of one between", of(nil, ops(del("aa")), nil), true, nil},
		{"some, of Then", of(yes, both, nil), true, kept},
		{"some, of Else", of(no, nil, both), false, kept},
		{"all, in turn", of(nil, ops(put("e", "1"), del("c"), del("a"), put("b", "2")), nil), true, ops(put("e", "1"), del("c"), del("a"), put("b", "2"))},
		{"none", of(nil, ops(del("e"), del("f"), del("aa"), del("")), nil), true, nil},
		{"none of Then, while Else has some", of(yes, ops(del("e")), ops(put("e", "1"))), true, nil},
		{"none of Else, while Then has some", of(no, ops(put("e", "1")), ops(del("e"))), false, nil},
		{"first one left out", of(nil, ops(del("e"), put("a", "1")), nil), true, ops(put("a", "1"))},
		{"last one left out", of(nil, ops(put("a", "1"), del("e")), nil), true, ops(put("a", "1"))},
		{"a compare of a Kind that is none", of(cmps(api.Cmp{Kind: 3, Key: "a", Val: "x", Rev: 1}), ops(put("a", "1")), ops(put("a", "2"))), false, ops(put("a", "2"))},
		{"one of several doesn't hold", of(cmps(has("a", "x"), at("b", 2), at("e", 1)), ops(put("a", "1")), ops(put("a", "2"))), false, ops(put("a", "2"))},
		{"a put, and a deletion of one that isn't there", of(nil, ops(put("e", "1"), del("e")), nil), true, ops(put("e", "1"))},
		{"two puts of one key", of(nil, ops(put("e", "1"), put("e", "2")), nil), true, ops(put("e", "1"), put("e", "2"))},
		{"a deletion that has a value, as it is", of(nil, ops(api.Op{Key: "b", Val: "v", Del: true}, api.Op{Key: "e", Val: "v", Del: true}), nil), true, ops(api.Op{Key: "b", Val: "v", Del: true})},
	}
	for _, c := range cases {
		plans(t, c.name, some(), c.q, c.ok, c.want)
	}
}

// Of the empty map each deletion is left out.
func TestPlanOfNothing(t *testing.T) {
	for _, m := range [][]api.KV{nil, {}} {
		plans(t, "deletions", m, of(nil, ops(del("a"), del("b")), nil), true, nil)
		plans(t, "a put between", m, of(cmps(at("a", 0)), ops(del("a"), put("b", "1"), del("c")), nil), true, ops(put("b", "1")))
		plans(t, "they don't hold", m, of(cmps(at("a", 1)), ops(put("b", "1")), ops(del("b"), put("c", "1"))), false, ops(put("c", "1")))
	}
}

// Cmps, Then and Else are looked at, whatever the Kind is.
func TestPlanOfEachKind(t *testing.T) {
	for _, kind := range numbers() {
		q := of(cmps(has("a", "x")), ops(put("a", "1"), del("e")), ops(put("a", "2")))
		q.Kind, q.R, q.Rev = kind, key.One("b"), 1
		plans(t, "they hold", some(), q, true, ops(put("a", "1")))
		q.Cmps = cmps(has("a", "y"))
		plans(t, "they don't", some(), q, false, ops(put("a", "2")))
	}
}

func TestPlanInEveryWay(t *testing.T) {
	conditions := [][]api.Cmp{nil, cmps(has("a", "1")), cmps(at("a", 0)), cmps(at("ab", 2), has("b", "1")), cmps(at("c", 0), at("b", 0)), cmps(at("a", 1), api.Cmp{})}
	rows := lists(2, put("a", "1"), put("b", ""), put("c", "2"), del("a"), del("ab"), del("b"), del("c"))
	for _, m := range maps() {
		for _, c := range conditions {
			for _, then := range rows {
				for _, other := range rows {
					q := of(c, then, other)
					ok, l := txn.Plan(m, q)
					if want, row := planned(m, q); ok != want || !slices.Equal(l, row) {
						t.Fatalf("Plan(%v, %v): %v, %v", m, q, ok, l)
					}
				}
			}
		}
	}
}

// Whether compares hold is told alike by Plan and by Holds.
func TestPlanTellsWhatHolds(t *testing.T) {
	c, _ := pool()
	for _, m := range maps() {
		for _, l := range lists(2, c...) {
			if ok, _ := txn.Plan(m, of(l, nil, nil)); ok != txn.Holds(m, l) {
				t.Fatalf("Plan of %v, with %v: %v", m, l, ok)
			}
		}
	}
}

func TestPlanOfFarMore(t *testing.T) {
	const n = 1 << 16
	var m []api.KV
	var want []api.Op
	for i := range n {
		if i%3 == 0 {
			m, want = append(m, kv(numbered(i), "v", i+1)), append(want, del(numbered(i)))
		}
	}
	plans(t, "they don't hold", m, of(compares(n), puts(n), deletions(n)), false, want)
	plans(t, "no compares", m, of(nil, puts(n), deletions(n)), true, puts(n))
	if !txn.Holds(m, cmps(has(numbered(n-1), "v"))) || txn.Holds(m, cmps(has(numbered(n-2), "v"))) {
		t.Errorf("Holds, of %d keys", len(m))
	}
}

// P7.3: Put, Del and Swap, whole.

func TestPutDelAndSwap(t *testing.T) {
	texts := []string{"", "a", "b", "\x00", "\xff", "12345678", "123456789", long()}
	same := func(name string, got, want api.Req) {
		if !sames(got, want) {
			t.Errorf("%s: %.300v, not %.300v", name, got, want)
		}
	}
	for _, k := range texts {
		same("Del", txn.Del(k), api.Req{Kind: 1, Then: []api.Op{{Key: k, Del: true}}})
		for _, v := range texts {
			same("Put", txn.Put(k, v), api.Req{Kind: 1, Then: []api.Op{{Key: k, Val: v}}})
			for _, old := range texts {
				want := api.Req{Kind: 1, Cmps: []api.Cmp{{Kind: 1, Key: k, Val: old}}, Then: []api.Op{{Key: k, Val: v}}}
				same("Swap", txn.Swap(k, old, v), want)
			}
		}
	}
}

func TestPutDelAndSwapMayBe(t *testing.T) {
	for n := range 11 {
		k, v := strings.Repeat("k", n), strings.Repeat("v", n)
		may(t, "Put, by its key", txn.Put(k, "v"), n >= 1 && n <= 8)
		may(t, "Put, by its value", txn.Put("k", v), n <= 8)
		may(t, "Del", txn.Del(k), n >= 1 && n <= 8)
		may(t, "Swap, by its key", txn.Swap(k, "v", "w"), n >= 1 && n <= 8)
		may(t, "Swap, by its value", txn.Swap("k", v, "w"), n <= 8)
		may(t, "Swap, by its next value", txn.Swap("k", "w", v), n <= 8)
	}
}

func TestPutDelAndSwapPlanned(t *testing.T) {
	plans(t, "Put of a key that is there", some(), txn.Put("a", "z"), true, ops(put("a", "z")))
	plans(t, "Put of one that isn't", some(), txn.Put("d", "z"), true, ops(put("d", "z")))
	plans(t, "Del of a key that is there", some(), txn.Del("a"), true, ops(del("a")))
	plans(t, "Del of one that isn't", some(), txn.Del("d"), true, nil)
	plans(t, "Swap of its value", some(), txn.Swap("a", "x", "z"), true, ops(put("a", "z")))
	plans(t, "Swap of its value with itself", some(), txn.Swap("a", "x", "x"), true, ops(put("a", "x")))
	plans(t, "Swap of another value", some(), txn.Swap("a", "z", "y"), false, nil)
	plans(t, "Swap of no value", some(), txn.Swap("c", "", "z"), true, ops(put("c", "z")))
	for _, q := range []api.Req{txn.Put("a", "z"), txn.Del("a"), txn.Swap("a", "x", "z")} {
		if got := txn.Keys(q); !slices.Equal(got, []string{"a"}) {
			t.Errorf("Keys(%v): %q", q, got)
		}
	}
}

// The chapter's example: a swap of a key that isn't there doesn't hold, and changes nothing.
func TestSwapOfTheExample(t *testing.T) {
	for _, old := range []string{"", "x", "z"} {
		q := txn.Swap("d", old, "z")
		for _, m := range [][]api.KV{nil, some()} {
			if txn.Holds(m, q.Cmps) {
				t.Errorf("Swap of a key that isn't there, from %q: it holds of %v", old, m)
			}
			plans(t, "Swap of a key that isn't there", m, q, false, nil)
		}
	}
}

// P7.4: what a transaction does hangs on its own keys alone.

// own is what a map has of a transaction's keys.
func own(m []api.KV, q api.Req) []api.KV {
	var l []api.KV
	for _, k := range txn.Keys(q) {
		l = append(l, event.Restrict(m, key.One(k))...)
	}
	return l
}

// alike looks that what is planned is the same of two maps.
func alike(t *testing.T, q api.Req, a, b []api.KV) {
	t.Helper()
	ok, l := txn.Plan(a, q)
	if other, row := txn.Plan(b, q); ok != other || !slices.Equal(l, row) {
		t.Fatalf("Plan(%v): of %v it is %v, %v, of %v %v, %v", q, a, ok, l, b, other, row)
	}
	if txn.Holds(a, q.Cmps) != txn.Holds(b, q.Cmps) {
		t.Fatalf("Holds(%v) of %v isn't that of %v", q.Cmps, a, b)
	}
}

func TestItsOwnKeysAlone(t *testing.T) {
	rows := lists(2, put("a", "1"), del("a"), del("ab"), del("b"))
	for _, c := range lists(2, has("a", "1"), has("b", ""), at("a", 0), at("ab", 1), at("b", 2)) {
		for _, then := range rows {
			for _, other := range [][]api.Op{nil, {put("ab", "1")}, {del("b")}, {del("ab"), put("a", "2")}} {
				q := of(c, then, other)
				for _, m := range maps() {
					alike(t, q, m, own(m, q))
				}
			}
		}
	}
}

// Other keys may be there, with whatever value and revision, below, between and above its own.
func TestOtherKeysPlayNoPart(t *testing.T) {
	q := of(cmps(has("d", "1"), at("f", 2)), ops(put("d", "2"), del("f"), del("h")), ops(del("d"), del("h"), put("f", "")))
	for _, m := range [][]api.KV{nil, kvs(kv("d", "1", 1), kv("f", "2", 2)), kvs(kv("d", "2", 1), kv("h", "1", 1)), kvs(kv("d", "1", 1), kv("f", "2", 2), kv("h", "3", 3))} {
		for set := range 1 << 6 {
			more := slices.Clone(m)
			for i, k := range []string{"c", "d\x00", "e", "g", "gg", "i"} {
				if set>>i&1 == 1 {
					more = append(more, kv(k, "1", 2))
				}
			}
			slices.SortFunc(more, func(a, b api.KV) int { return strings.Compare(a.Key, b.Key) })
			alike(t, q, m, more)
		}
	}
}

// R3: what is handed in stays as it is, and is shared with nothing; what is told is the caller's own.

// spoil writes over all that a list has, and over the room behind it.
func spoil[T any](l []T) { clear(l[:cap(l)]) }

// wide is a transaction, and a map, whose lists have something behind them, which isn't theirs.
func wide() (api.Req, []api.KV) {
	c := cmps(has("d", "1"), at("b", 0), has("a", "x"), at("spare", 1), has("spare", "2"))
	then := ops(put("d", "2"), del("c"), del("a"), put("spare", "1"), del("spare"))
	other := ops(del("c"), put("b", "3"), del("a"), del("spare"), put("spare", "4"))
	m := kvs(kv("a", "x", 1), kv("c", "", 2), kv("d", "1", 3), kv("spare", "5", 4))
	return of(c[:3], then[:3], other[:3]), m[:3]
}

// whole has all that lists have, and what is behind them.
func whole(q api.Req, m []api.KV) (api.Req, []api.KV) {
	q.Cmps, q.Then, q.Else = slices.Clone(q.Cmps[:5]), slices.Clone(q.Then[:5]), slices.Clone(q.Else[:5])
	return q, slices.Clone(m[:4])
}

func TestWhatIsHandedInStays(t *testing.T) {
	calls := map[string]func(q api.Req, m []api.KV){
		"May":   func(q api.Req, m []api.KV) { txn.May(q) },
		"Keys":  func(q api.Req, m []api.KV) { spoil(txn.Keys(q)) },
		"Holds": func(q api.Req, m []api.KV) { txn.Holds(m, q.Cmps) },
		"Plan": func(q api.Req, m []api.KV) {
			_, l := txn.Plan(m, q)
			spoil(l)
		},
		"Plan of Else": func(q api.Req, m []api.KV) {
			_, l := txn.Plan(m[:1], q)
			spoil(l)
		},
		"Plan of all": func(q api.Req, m []api.KV) {
			_, l := txn.Plan(m, of(nil, q.Then, nil))
			_, row := txn.Plan(m[:2], of(q.Cmps, nil, q.Else))
			spoil(l)
			spoil(row)
		},
	}
	for name, call := range calls {
		for _, kind := range []int{0, 1, 2, 3} {
			q, m := wide()
			q.Kind, q.R, q.Rev = kind, key.One("a"), 1
			want, kept := whole(q, m)
			call(q, m)
			if got, now := whole(q, m); !sames(got, want) || !slices.Equal(now, kept) {
				t.Errorf("%s: handed in is %v, %v, not %v, %v", name, got, now, want, kept)
			}
		}
	}
}

// What is told stays, once what was handed in has changed.
func TestWhatIsToldStays(t *testing.T) {
	for _, n := range []int{1, 3} {
		q, m := wide()
		want, row := planned(m[:n], q)
		names := keys(q)
		ok, l := txn.Plan(m[:n], q)
		told := txn.Keys(q)
		spoil(q.Cmps)
		spoil(q.Then)
		spoil(q.Else)
		spoil(m)
		if ok != want || !slices.Equal(l, row) || !slices.Equal(told, names) {
			t.Errorf("Plan: %v, %v, not %v, %v; Keys: %q, not %q", ok, l, want, row, told, names)
		}
	}
}

// Told twice, one has nothing of the other one.
func TestNothingThatIsToldIsShared(t *testing.T) {
	q, m := wide()
	_, row := planned(m, q)
	_, l := txn.Plan(m, q)
	_, again := txn.Plan(m, q)
	told, twice := txn.Keys(q), txn.Keys(q)
	spoil(l)
	spoil(told)
	if !slices.Equal(again, row) || !slices.Equal(twice, keys(q)) {
		t.Errorf("told again: %v, %q", again, twice)
	}
	made := func() []api.Req { return []api.Req{txn.Put("a", "1"), txn.Del("a"), txn.Swap("a", "1", "2")} }
	first, second := made(), made()
	for i, q := range first {
		want := second[i]
		want.Cmps, want.Then, want.Else = slices.Clone(want.Cmps), slices.Clone(want.Then), slices.Clone(want.Else)
		spoil(q.Cmps)
		spoil(q.Then)
		spoil(q.Else)
		if !sames(second[i], want) || !sames(made()[i], want) {
			t.Errorf("made again: %v, and then %v, not %v", second[i], made()[i], want)
		}
	}
}

// R2: nil and empty are the same, handed in.
func TestNilAndEmpty(t *testing.T) {
	for _, c := range [][]api.Cmp{nil, {}} {
		for _, then := range [][]api.Op{nil, {}} {
			for _, other := range [][]api.Op{nil, {}} {
				for _, m := range [][]api.KV{nil, {}} {
					q := of(c, then, other)
					may(t, "of nothing", q, true)
					plans(t, "of nothing", m, q, true, nil)
					if l := txn.Keys(q); len(l) != 0 || !txn.Holds(m, c) {
						t.Errorf("of nothing: Keys: %q, Holds: %v", l, txn.Holds(m, c))
					}
				}
			}
		}
	}
}

// R4: nothing is kept from call to call, and nothing hangs on the order of a map.
func TestAskedAgain(t *testing.T) {
	q, m := wide()
	names := keys(q)
	want, row := planned(m, q)
	for range 50 {
		may(t, "asked again", q, true)
		may(t, "what may not be", txn.Put("", ""), false)
		plans(t, "asked again", m, q, want, row)
		plans(t, "of another map", nil, q, false, ops(put("b", "3")))
		if got := txn.Keys(q); !slices.Equal(got, names) || !txn.Holds(m, q.Cmps) || txn.Holds(nil, q.Cmps) {
			t.Fatalf("asked again: Keys: %q", got)
		}
	}
}

// P1: every call ends, and none panics, at whatever it is handed.
func TestNoCallPanics(t *testing.T) {
	texts := []string{"", "\x00", "a", "\xff\xff\xff\xff\xff\xff\xff\xff\xff", long()}
	var c []api.Cmp
	var o []api.Op
	var m []api.KV
	for _, k := range texts {
		for _, v := range texts {
			o = append(o, put(k, v), api.Op{Key: k, Val: v, Del: true})
			txn.Put(k, v)
			txn.Swap(k, v, k)
			for _, n := range numbers() {
				c, m = append(c, api.Cmp{Kind: n, Key: k, Val: v, Rev: -n}), append(m, kv(k, v, n))
			}
		}
		txn.Del(k)
	}
	back := slices.Clone(m)
	slices.Reverse(back)
	for _, kind := range numbers() {
		for n := range 6 {
			q := api.Req{Kind: kind, R: api.Range{From: texts[n%5], To: texts[kind&1]}, Rev: kind, Cmps: c[n:], Then: o[n:], Else: o[:n]}
			short := api.Req{Kind: kind, Cmps: c[n*16 : n*16+n], Then: o[n : n+n], Else: o[:n]}
			for _, l := range [][]api.KV{nil, m[:1], m, back} {
				for _, x := range []api.Req{q, short, {Kind: kind}} {
					txn.May(x)
					txn.Keys(x)
					txn.Holds(l, x.Cmps)
					txn.Plan(l, x)
				}
			}
		}
	}
}
