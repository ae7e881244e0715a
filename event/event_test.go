package event_test

import (
	"math"
	"slices"
	"strings"
	"testing"

	"impost/api"
	"impost/event"
)

func put(rev int, k, v string) api.Event { return api.Event{Rev: rev, Key: k, Val: v} }

func del(rev int, k string) api.Event { return api.Event{Rev: rev, Key: k, Del: true} }

func kv(k, v string, rev int) api.KV { return api.KV{Key: k, Val: v, Rev: rev} }

func between(from, to string) api.Range { return api.Range{From: from, To: to} }

// below tells whether a key is lower than another one, byte by byte; one that the other one begins with is.
func below(a, b string) bool {
	for i := 0; i < len(a) && i < len(b); i++ {
		if a[i] != b[i] {
			return a[i] < b[i]
		}
	}
	return len(a) < len(b)
}

// has tells whether a range has a key, in the words of chapter 4.
func has(r api.Range, k string) bool {
	return !below(k, r.From) && (r.To == "" || below(k, r.To))
}

// filtered, restricted, lasts, folded and rows are the chapter's words, without a map of the language.
func filtered(l []api.Event, r api.Range) []api.Event {
	var told []api.Event
	for i := range l {
		if has(r, l[i].Key) {
			told = append(told, l[i])
		}
	}
	return told
}

func restricted(m []api.KV, r api.Range) []api.KV {
	var told []api.KV
	for i := range m {
		if has(r, m[i].Key) {
			told = append(told, m[i])
		}
	}
	return told
}

func lasts(l []api.Event) []api.Event {
	var told []api.Event
	for i, e := range l {
		again := slices.ContainsFunc(l[i+1:], func(o api.Event) bool { return o.Key == e.Key })
		if again {
			continue
		}
		at := 0
		for at < len(told) && below(told[at].Key, e.Key) {
			at++
		}
		told = slices.Insert(told, at, e)
	}
	return told
}

func folded(m []api.KV, l []api.Event) []api.KV {
	told := slices.Clone(m)
	for _, e := range l {
		at := 0
		for at < len(told) && below(told[at].Key, e.Key) {
			at++
		}
		if at < len(told) && told[at].Key == e.Key {
			told = slices.Delete(told, at, at+1)
		}
		if !e.Del {
			told = slices.Insert(told, at, kv(e.Key, e.Val, e.Rev))
		}
	}
	return told
}

func rows(l []api.Event) [][]api.Event {
	var told [][]api.Event
	for i, e := range l {
		if i == 0 || l[i-1].Rev != e.Rev {
			told = append(told, nil)
		}
		told[len(told)-1] = append(told[len(told)-1], e)
	}
	return told
}

func sameRows(a, b [][]api.Event) bool {
	return slices.EqualFunc(a, b, func(x, y []api.Event) bool { return slices.Equal(x, y) })
}

// lists are all of so many events at most, of those that are handed in; their revisions are 1 and on.
func lists(most int, of ...api.Event) [][]api.Event {
	all, row := [][]api.Event{nil}, [][]api.Event{nil}
	for i := range most {
		var next [][]api.Event
		for _, l := range row {
			for _, e := range of {
				e.Rev = i + 1
				next = append(next, append(slices.Clone(l), e))
			}
		}
		all, row = append(all, next...), next
	}
	return all
}

// some are events of three keys, each put with one of two values, or deleted.
func some() []api.Event {
	var l []api.Event
	for _, k := range []string{"a", "ab", "b"} {
		l = append(l, put(0, k, "v"), put(0, k, "w"), del(0, k))
	}
	return l
}

// maps are all of some of three keys.
func maps() [][]api.KV {
	var all [][]api.KV
	for set := range 8 {
		var m []api.KV
		for i, k := range []string{"a", "ab", "b"} {
			if set>>i&1 == 1 {
				m = append(m, kv(k, "v", -i))
			}
		}
		all = append(all, m)
	}
	return all
}

// ranges are all of some ends, those that are Empty among them.
func ranges() []api.Range {
	ends := []string{"", "a", "a\x00", "ab", "ab\x00", "b", "b\x00", "c"}
	var all []api.Range
	for _, from := range ends {
		for _, to := range ends {
			all = append(all, between(from, to))
		}
	}
	return all
}

// long is a text that is far longer than any key or value may be.
func long() string { return strings.Repeat("k", 1<<16) }

// odd are events that no transaction makes: the empty key, longer ones than may be, revisions that fall, come again, or are below 0.
func odd() []api.Event {
	return []api.Event{
		put(math.MaxInt, "", ""),
		put(7, "123456789", "123456789"),
		del(7, ""),
		{Rev: 3, Key: "a", Val: "deleted, with a value", Del: true},
		put(-1, long(), long()),
		put(-1, "a", "\xff\x00"),
		{},
		put(math.MinInt, "\xff\xff\xff\xff\xff\xff\xff\xff\xff", ""),
		del(0, long()+"\x00"),
		put(1001, "é", "é"),
		put(7, "\x00", "x"),
	}
}

// P5.1: Filter.

func TestFilter(t *testing.T) {
	l := []api.Event{put(1, "b", "1"), put(1, "d", "2"), del(2, "b"), put(3, "a", "3"), put(4, "c", "4"), put(5, "b", "5"), del(6, "d"), put(7, "c\xff", "7"), put(8, "b\x00", "8"), put(9, "a\xff", "9")}
	cases := []struct {
		name string
		l    []api.Event
		r    api.Range
		want []api.Event
	}{
		{"no events", nil, between("", ""), nil},
		{"no events, empty", []api.Event{}, between("a", "b"), nil},
		{"no events, an Empty range", nil, between("b", "a"), nil},
		{"one event, which it has", l[:1], between("a", "c"), l[:1]},
		{"one event, which it hasn't", l[:1], between("c", "d"), nil},
		{"all", l, between("", ""), l},
		{"all, by both ends", l, between("a", "d\x00"), l},
		{"none: beyond", l, between("e", ""), nil},
		{"none: below", l, between("", "a"), nil},
		{"none: between two keys", l, between("b\x01", "c"), nil},
		{"some: in turn, each one of a key", l, between("b", "d"), []api.Event{l[0], l[2], l[4], l[5], l[7], l[8]}},
		{"at From, and not just below it", l, between("b", ""), []api.Event{l[0], l[1], l[2], l[4], l[5], l[6], l[7], l[8]}},
		{"just below To, and not at it", l, between("c", "d"), []api.Event{l[4], l[7]}},
		{"an empty To", l, between("d", ""), []api.Event{l[1], l[6]}},
		{"one key", l, between("b", "b\x00"), []api.Event{l[0], l[2], l[5]}},
		{"Empty: To at From", l, between("b", "b"), nil},
		{"Empty: To below From", l, between("d", "a"), nil},
		{"the same twice", []api.Event{l[0], l[0]}, between("a", "c"), []api.Event{l[0], l[0]}},
		{"deleted, too", []api.Event{del(1, "a"), del(2, "b")}, between("b", ""), []api.Event{del(2, "b")}},
		{"revisions that fall", []api.Event{put(3, "a", ""), put(-2, "b", ""), put(1, "a", "")}, between("a", "b"), []api.Event{put(3, "a", ""), put(1, "a", "")}},
		{"the empty key", []api.Event{put(1, "", "x"), put(1, "a", "y")}, between("", "a"), []api.Event{put(1, "", "x")}},
		{"longer keys and values than may be", []api.Event{put(1, long(), long()), put(1, "l", "")}, between("k", "l"), []api.Event{put(1, long(), long())}},
	}
	for _, c := range cases {
		if got := event.Filter(c.l, c.r); !slices.Equal(got, c.want) {
			t.Errorf("%s: Filter by %q: %.200v", c.name, c.r, got)
		}
	}
}

// P5.1: Restrict.

func TestRestrict(t *testing.T) {
	m := []api.KV{kv("a", "1", 3), kv("a\xff", "2", 1), kv("b", "3", 2), kv("b\x00", "4", 2), kv("c", "", 9), kv("c\xff", "6", 4), kv("d", "7", 5)}
	cases := []struct {
		name string
		m    []api.KV
		r    api.Range
		want []api.KV
	}{
		{"no map", nil, between("", ""), nil},
		{"no map, empty", []api.KV{}, between("a", "b"), nil},
		{"no map, an Empty range", nil, between("b", "a"), nil},
		{"one key, which it has", m[2:3], between("b", "c"), m[2:3]},
		{"one key, which it hasn't", m[2:3], between("c", "d"), nil},
		{"all", m, between("", ""), m},
		{"all, by both ends", m, between("a", "d\x00"), m},
		{"none: beyond", m, between("e", ""), nil},
		{"none: below", m, between("", "a"), nil},
		{"none: between two keys", m, between("b\x01", "c"), nil},
		{"the map's begin, at From", m, between("a", "b"), m[:2]},
		{"the map's begin, below From", m, between("", "b"), m[:2]},
		{"the map's end, at To", m, between("c", "d"), m[4:6]},
		{"the map's end, above To", m, between("c", "d\x00"), m[4:]},
		{"the map's end, an empty To", m, between("d", ""), m[6:]},
		{"but the first one", m, between("a\x00", ""), m[1:]},
		{"but the last one", m, between("", "d"), m[:6]},
		{"at From, and not just below it", m, between("b", "c"), m[2:4]},
		{"just below To", m, between("c", "c\xff\x00"), m[4:6]},
		{"one key of some", m, between("b", "b\x00"), m[2:3]},
		{"Empty: To at From", m, between("b", "b"), nil},
		{"Empty: To below From", m, between("d", "a"), nil},
		{"the empty key", []api.KV{kv("", "x", 1), kv("a", "y", 1)}, between("", "a"), []api.KV{kv("", "x", 1)}},
		{"longer keys and values than may be", []api.KV{kv(long(), long(), 1), kv("l", "", 1)}, between("k", "l"), []api.KV{kv(long(), long(), 1)}},
		{"revisions below 0", []api.KV{kv("a", "", -1), kv("b", "", math.MinInt)}, between("b", ""), []api.KV{kv("b", "", math.MinInt)}},
	}
	for _, c := range cases {
		if got := event.Restrict(c.m, c.r); !slices.Equal(got, c.want) {
			t.Errorf("%s: Restrict by %q: %.200v", c.name, c.r, got)
		}
	}
}

// P5.1: Last.

func TestLast(t *testing.T) {
	cases := []struct {
		name    string
		l, want []api.Event
	}{
		{"no events", nil, nil},
		{"no events, empty", []api.Event{}, nil},
		{"one event", []api.Event{put(1, "a", "x")}, []api.Event{put(1, "a", "x")}},
		{"one event, deleted", []api.Event{del(1, "a")}, []api.Event{del(1, "a")}},
		{"one key", []api.Event{put(1, "a", "x"), put(2, "a", "y"), put(3, "a", "x")}, []api.Event{put(3, "a", "x")}},
		{"one key, put, deleted", []api.Event{put(1, "a", "x"), del(2, "a")}, []api.Event{del(2, "a")}},
		{"one key, put, deleted, and put", []api.Event{put(1, "a", "x"), del(2, "a"), put(3, "a", "")}, []api.Event{put(3, "a", "")}},
		{"keys that rise", []api.Event{put(1, "a", "1"), put(1, "b", "2"), put(2, "c", "3")}, []api.Event{put(1, "a", "1"), put(1, "b", "2"), put(2, "c", "3")}},
		{"keys that fall", []api.Event{put(1, "c", "1"), put(1, "b", "2"), put(2, "a", "3")}, []api.Event{put(2, "a", "3"), put(1, "b", "2"), put(1, "c", "1")}},
		{"keys that come again", []api.Event{put(1, "b", "1"), put(2, "a", "2"), del(3, "c"), put(4, "b", "4"), put(5, "c", "5"), del(6, "a")}, []api.Event{del(6, "a"), put(4, "b", "4"), put(5, "c", "5")}},
		{"in one revision", []api.Event{put(1, "b", "1"), put(1, "a", "2"), put(1, "b", "3")}, []api.Event{put(1, "a", "2"), put(1, "b", "3")}},
		{"the last one, not that of the highest revision", []api.Event{put(9, "a", "x"), put(-3, "a", "y")}, []api.Event{put(-3, "a", "y")}},
		{"a key that another one begins with", []api.Event{put(1, "ab", "1"), put(2, "a\xff", "2"), put(3, "a", "3"), put(4, "a\x00", "4")}, []api.Event{put(3, "a", "3"), put(4, "a\x00", "4"), put(1, "ab", "1"), put(2, "a\xff", "2")}},
		{"bytes above 127 are higher", []api.Event{put(1, "\x80", "1"), put(2, "\x7f", "2"), put(3, "\xff", "3"), put(4, "", "4")}, []api.Event{put(4, "", "4"), put(2, "\x7f", "2"), put(1, "\x80", "1"), put(3, "\xff", "3")}},
		{"deleted, with a value", []api.Event{{Rev: 1, Key: "a", Val: "x", Del: true}}, []api.Event{{Rev: 1, Key: "a", Val: "x", Del: true}}},
		{"longer keys than may be", []api.Event{put(1, long()+"b", "1"), put(2, long()+"a", long()), put(3, long()+"b", "3")}, []api.Event{put(2, long()+"a", long()), put(3, long()+"b", "3")}},
	}
	for _, c := range cases {
		got := event.Last(c.l)
		if !slices.Equal(got, c.want) {
			t.Errorf("%s: Last: %.200v", c.name, got)
		}
		if again := event.Last(got); !slices.Equal(again, c.want) {
			t.Errorf("%s: Last of what Last told: %.200v", c.name, again)
		}
	}
}

// So many keys that a map that is gone through as it comes would hardly ever tell them rising.
func TestLastOfManyKeys(t *testing.T) {
	var l, want []api.Event
	for i := range 512 {
		k := string([]byte{byte(255 - i%256)})
		l = append(l, put(i, k, "v"))
	}
	for b := range 256 {
		want = append(want, put(511-b, string([]byte{byte(b)}), "v"))
	}
	if got := event.Last(l); !slices.Equal(got, want) {
		t.Errorf("Last: %v", got)
	}
}

// P5.1: Cut.

func TestCut(t *testing.T) {
	a, b, c := put(1, "a", "x"), put(1, "b", "y"), del(1, "c")
	d, e := put(2, "a", "z"), put(3, "a", "x")
	cases := []struct {
		name string
		l    []api.Event
		want [][]api.Event
	}{
		{"no events", nil, nil},
		{"no events, empty", []api.Event{}, nil},
		{"one event", []api.Event{a}, [][]api.Event{{a}}},
		{"one event of the revision 0", []api.Event{put(0, "a", "")}, [][]api.Event{{put(0, "a", "")}}},
		{"the event that is zero", []api.Event{{}}, [][]api.Event{{{}}}},
		{"of one revision", []api.Event{a, b, c}, [][]api.Event{{a, b, c}}},
		{"the same twice", []api.Event{a, a}, [][]api.Event{{a, a}}},
		{"of revisions that all differ", []api.Event{a, d, e}, [][]api.Event{{a}, {d}, {e}}},
		{"some of each", []api.Event{a, b, d, e, e}, [][]api.Event{{a, b}, {d}, {e, e}}},
		{"the last row longer", []api.Event{d, a, b, c}, [][]api.Event{{d}, {a, b, c}}},
		{"a revision that comes again", []api.Event{a, d, b}, [][]api.Event{{a}, {d}, {b}}},
		{"that comes again, more of it", []api.Event{a, b, d, b, c}, [][]api.Event{{a, b}, {d}, {b, c}}},
		{"revisions that fall", []api.Event{e, d, a, b}, [][]api.Event{{e}, {d}, {a, b}}},
		{"revisions below 0", []api.Event{put(-1, "a", ""), put(1, "a", ""), put(-1, "a", ""), put(-1, "b", "")}, [][]api.Event{{put(-1, "a", "")}, {put(1, "a", "")}, {put(-1, "a", ""), put(-1, "b", "")}}},
		{"the keys in turn, as they are", []api.Event{c, b, a, d}, [][]api.Event{{c, b, a}, {d}}},
		{"revisions that are far apart", []api.Event{put(math.MinInt, "a", ""), put(math.MaxInt, "a", "")}, [][]api.Event{{put(math.MinInt, "a", "")}, {put(math.MaxInt, "a", "")}}},
	}
	for _, c := range cases {
		if got := event.Cut(c.l); !sameRows(got, c.want) {
			t.Errorf("%s: Cut: %v", c.name, got)
		}
	}
}

// All rows of revisions, against the chapter's words; one behind the other, the rows are what was cut.
func TestCutInEveryWay(t *testing.T) {
	all := lists(7, put(0, "a", "1"), put(0, "b", "2"), put(0, "c", "3"))
	for _, l := range all {
		// Which one it is of the three says the revision.
		for i := range l {
			l[i].Rev = int(l[i].Key[0]-'a') - 1
		}
		got := event.Cut(l)
		if !sameRows(got, rows(l)) {
			t.Fatalf("Cut(%v): %v", l, got)
		}
		if back := slices.Concat(got...); !slices.Equal(back, l) {
			t.Fatalf("Cut(%v), one behind the other: %v", l, back)
		}
	}
}

// P5.2: Fold.

func TestFold(t *testing.T) {
	m := []api.KV{kv("b", "1", 1), kv("d", "2", 2), kv("f", "3", 3)}
	cases := []struct {
		name string
		m    []api.KV
		l    []api.Event
		want []api.KV
	}{
		{"no map, no events", nil, nil, nil},
		{"both empty", []api.KV{}, []api.Event{}, nil},
		{"no events", m, nil, m},
		{"no map", nil, []api.Event{put(1, "a", "x")}, []api.KV{kv("a", "x", 1)}},
		{"no map, keys that fall", nil, []api.Event{put(1, "b", "x"), put(2, "a", "y")}, []api.KV{kv("a", "y", 2), kv("b", "x", 1)}},
		{"no map, deleted", nil, []api.Event{del(1, "a")}, nil},
		{"put below", m, []api.Event{put(9, "a", "x")}, []api.KV{kv("a", "x", 9), m[0], m[1], m[2]}},
		{"put between", m, []api.Event{put(9, "c", "x")}, []api.KV{m[0], kv("c", "x", 9), m[1], m[2]}},
		{"put above", m, []api.Event{put(9, "g", "x")}, []api.KV{m[0], m[1], m[2], kv("g", "x", 9)}},
		{"put, the first one", m, []api.Event{put(9, "b", "x")}, []api.KV{kv("b", "x", 9), m[1], m[2]}},
		{"put, one between", m, []api.Event{put(9, "d", "x")}, []api.KV{m[0], kv("d", "x", 9), m[2]}},
		{"put, the last one", m, []api.Event{put(9, "f", "x")}, []api.KV{m[0], m[1], kv("f", "x", 9)}},
		{"put with the value that it has", m, []api.Event{put(9, "d", "2")}, []api.KV{m[0], kv("d", "2", 9), m[2]}},
		{"put with the empty value", m, []api.Event{put(9, "d", "")}, []api.KV{m[0], kv("d", "", 9), m[2]}},
		{"put just as it is", m, []api.Event{put(2, "d", "2")}, m},
		{"put at a lower revision", m, []api.Event{put(0, "f", "x")}, []api.KV{m[0], m[1], kv("f", "x", 0)}},
		{"put at one below 0", m, []api.Event{put(-4, "f", "x")}, []api.KV{m[0], m[1], kv("f", "x", -4)}},
		{"deleted below", m, []api.Event{del(9, "a")}, m},
		{"deleted between", m, []api.Event{del(9, "c")}, m},
		{"deleted above", m, []api.Event{del(9, "g")}, m},
		{"deleted, the first one", m, []api.Event{del(9, "b")}, m[1:]},
		{"deleted, one between", m, []api.Event{del(9, "d")}, []api.KV{m[0], m[2]}},
		{"deleted, the last one", m, []api.Event{del(9, "f")}, m[:2]},
		{"deleted twice", m, []api.Event{del(9, "b"), del(10, "b")}, m[1:]},
		{"deleted, with a value", m, []api.Event{{Rev: 9, Key: "b", Val: "x", Del: true}}, m[1:]},
		{"deleted at a lower revision", m, []api.Event{del(0, "f")}, m[:2]},
		{"all deleted", m, []api.Event{del(9, "d"), del(9, "f"), del(9, "b")}, nil},
		{"put, deleted, put", m, []api.Event{put(7, "d", "x"), del(8, "d"), put(9, "d", "y")}, []api.KV{m[0], kv("d", "y", 9), m[2]}},
		{"put, deleted, put, of one that isn't there", m, []api.Event{put(7, "c", "x"), del(8, "c"), put(9, "c", "y")}, []api.KV{m[0], kv("c", "y", 9), m[1], m[2]}},
		{"deleted, put, deleted", m, []api.Event{del(7, "d"), put(8, "d", "x"), del(9, "d")}, []api.KV{m[0], m[2]}},
		{"put, and deleted, in one revision", m, []api.Event{put(9, "c", "x"), del(9, "c")}, m},
		{"the same keys", m, []api.Event{put(4, "f", "x"), del(5, "d"), put(6, "b", "y")}, []api.KV{kv("b", "y", 6), kv("f", "x", 4)}},
		{"the same keys, all put", m, []api.Event{put(4, "b", "x"), put(4, "d", "y"), put(4, "f", "z")}, []api.KV{kv("b", "x", 4), kv("d", "y", 4), kv("f", "z", 4)}},
		{"below, between and above", m, []api.Event{put(4, "g", "1"), put(4, "a", "2"), put(4, "e", "3"), put(5, "c", "4")}, []api.KV{kv("a", "2", 4), m[0], kv("c", "4", 5), m[1], kv("e", "3", 4), m[2], kv("g", "1", 4)}},
		{"keys that another one begins with", m, []api.Event{put(4, "b\x00", "1"), put(4, "d\xff", "2"), put(4, "", "3"), put(4, "\xff", "4")}, []api.KV{kv("", "3", 4), m[0], kv("b\x00", "1", 4), m[1], kv("d\xff", "2", 4), m[2], kv("\xff", "4", 4)}},
		{"the empty key, deleted", []api.KV{kv("", "x", 1)}, []api.Event{del(2, "")}, nil},
		{"longer keys and values than may be", m[:1], []api.Event{put(4, "123456789", "123456789"), put(4, long(), long())}, []api.KV{kv("123456789", "123456789", 4), m[0], kv(long(), long(), 4)}},
		{"a map of what may not be, no events", []api.KV{kv("", "x", -1), kv("123456789", long(), 2000), kv(long(), "", 0)}, nil, []api.KV{kv("", "x", -1), kv("123456789", long(), 2000), kv(long(), "", 0)}},
		{"a map of what may not be", []api.KV{kv("", "x", -1), kv("123456789", long(), 2000), kv(long(), "", 0)}, []api.Event{put(3, "a", "y")}, []api.KV{kv("", "x", -1), kv("123456789", long(), 2000), kv("a", "y", 3), kv(long(), "", 0)}},
		{"revisions that fall", m[:1], []api.Event{put(9, "b", "x"), put(3, "b", "y"), put(-1, "c", "z")}, []api.KV{kv("b", "y", 3), kv("c", "z", -1)}},
	}
	for _, c := range cases {
		if got := event.Fold(c.m, c.l); !slices.Equal(got, c.want) {
			t.Errorf("%s: Fold: %.200v", c.name, got)
		}
	}
}

// The chapter's example: put at 1, deleted at 2: nothing is there; behind the first one there is.
func TestFoldOfTheExample(t *testing.T) {
	l := []api.Event{put(1, "a", "x"), del(2, "a")}
	if got := event.Fold(nil, l); len(got) != 0 {
		t.Errorf("Fold: %v", got)
	}
	if got := event.Fold(nil, l[:1]); !slices.Equal(got, []api.KV{kv("a", "x", 1)}) {
		t.Errorf("Fold at 1: %v", got)
	}
	if got := event.Last(l); !slices.Equal(got, l[1:]) {
		t.Errorf("Last: %v", got)
	}
}

// So many keys that a map that is gone through as it comes would hardly ever tell them rising.
func TestFoldOfManyKeys(t *testing.T) {
	var m, want []api.KV
	var l []api.Event
	for b := range 256 {
		k := string([]byte{byte(b)})
		if b%2 == 0 {
			m = append(m, kv(k, "m", b))
		}
		if b%3 == 0 {
			l = append([]api.Event{put(b, k, "l")}, l...)
			want = append(want, kv(k, "l", b))
		} else if b%2 == 0 {
			want = append(want, kv(k, "m", b))
		}
	}
	if got := event.Fold(m, l); !slices.Equal(got, want) {
		t.Errorf("Fold: %v", got)
	}
}

// P5.1, P5.2 and P5.3: all lists of four events at most of three keys, upon all maps of these.

func TestLastInEveryWay(t *testing.T) {
	for _, l := range lists(4, some()...) {
		if got := event.Last(l); !slices.Equal(got, lasts(l)) {
			t.Fatalf("Last(%v): %v", l, got)
		}
	}
}

func TestFoldInEveryWay(t *testing.T) {
	for _, l := range lists(4, some()...) {
		last := event.Last(l)
		for _, m := range maps() {
			want := folded(m, l)
			if got := event.Fold(m, l); !slices.Equal(got, want) {
				t.Fatalf("Fold(%v, %v): %v", m, l, got)
			}
			if got := event.Fold(m, last); !slices.Equal(got, want) {
				t.Fatalf("Fold(%v, %v), each key's last one: %v", m, l, got)
			}
		}
	}
}

func TestRangesInEveryWay(t *testing.T) {
	for _, l := range lists(2, some()...) {
		for _, r := range ranges() {
			if got := event.Filter(l, r); !slices.Equal(got, filtered(l, r)) {
				t.Fatalf("Filter(%v, %q): %v", l, r, got)
			}
		}
	}
	for _, m := range maps() {
		for _, r := range ranges() {
			if got := event.Restrict(m, r); !slices.Equal(got, restricted(m, r)) {
				t.Fatalf("Restrict(%v, %q): %v", m, r, got)
			}
		}
	}
}

// What a range has of a map that events made is what its events make of what it has.
func TestRestrictOfFold(t *testing.T) {
	for _, l := range lists(3, some()...) {
		for _, r := range ranges() {
			within, last := event.Filter(l, r), event.Filter(event.Last(l), r)
			if !slices.Equal(event.Last(within), last) {
				t.Fatalf("Last of what %q has of %v: %v", r, l, event.Last(within))
			}
			for _, m := range maps() {
				want := event.Restrict(event.Fold(m, l), r)
				if got := event.Fold(event.Restrict(m, r), within); !slices.Equal(got, want) {
					t.Fatalf("of %v, %v and %q: %v, not %v", m, l, r, got, want)
				}
				if got := event.Fold(event.Restrict(m, r), last); !slices.Equal(got, want) {
					t.Fatalf("of %v, %v and %q, each key's last one: %v, not %v", m, l, r, got, want)
				}
			}
		}
	}
}

// Events of two lists are those of both, one behind the other.
func TestTwoLists(t *testing.T) {
	all := lists(2, some()...)
	for _, a := range all {
		for _, b := range all {
			both := slices.Concat(a, b)
			for _, r := range ranges() {
				if got, want := event.Filter(both, r), slices.Concat(event.Filter(a, r), event.Filter(b, r)); !slices.Equal(got, want) {
					t.Fatalf("Filter(%v, %q): %v, not %v", both, r, got, want)
				}
			}
			if got, want := event.Last(slices.Concat(event.Last(a), b)), event.Last(both); !slices.Equal(got, want) {
				t.Fatalf("Last of %v and %v: %v, not %v", a, b, got, want)
			}
			for _, m := range maps() {
				if got, want := event.Fold(event.Fold(m, a), b), event.Fold(m, both); !slices.Equal(got, want) {
					t.Fatalf("Fold of %v, %v and %v: %v, not %v", m, a, b, got, want)
				}
			}
		}
	}
}

// Row by row, as Cut tells them, events make the same.
func TestFoldRowByRow(t *testing.T) {
	l := []api.Event{put(1, "b", "1"), put(1, "a", "2"), del(2, "b"), put(3, "a", "3"), put(3, "c", "4"), del(4, "d"), put(4, "b", "5")}
	start := []api.KV{kv("d", "0", 0)}
	m := start
	for _, row := range event.Cut(l) {
		m = event.Fold(m, row)
	}
	want := []api.KV{kv("a", "3", 3), kv("b", "5", 4), kv("c", "4", 3)}
	if got := event.Fold(start, l); !slices.Equal(got, want) || !slices.Equal(m, want) {
		t.Errorf("Fold: %v; row by row: %v", got, m)
	}
}

// Wrong inputs: events and keys are what they are, whatever no transaction makes of them.
func TestOfWhatMayNotBe(t *testing.T) {
	l := odd()
	m := []api.KV{kv("", "", -1), kv("123456789", "x", math.MaxInt), kv("\x00\x00", "", 0)}
	slices.SortFunc(m, func(a, b api.KV) int { return strings.Compare(a.Key, b.Key) })
	if got := event.Last(l); !slices.Equal(got, lasts(l)) {
		t.Errorf("Last: %.200v", got)
	}
	if got := event.Cut(l); !sameRows(got, rows(l)) {
		t.Errorf("Cut: %.200v", got)
	}
	if got := event.Fold(m, l); !slices.Equal(got, folded(m, l)) {
		t.Errorf("Fold: %.200v", got)
	}
	for _, from := range l {
		for _, to := range l {
			r := between(from.Key, to.Key)
			if got := event.Filter(l, r); !slices.Equal(got, filtered(l, r)) {
				t.Errorf("Filter by %.40q: %.200v", r, got)
			}
			if got := event.Restrict(m, r); !slices.Equal(got, restricted(m, r)) {
				t.Errorf("Restrict by %.40q: %.200v", r, got)
			}
		}
	}
}

// R3: what was handed in stays as it is, and what is told shares nothing with it, nor one list with another.

// spare are the events with room behind them that a call could write into; whole is all of that room.
func spare(l []api.Event) (handed, whole []api.Event) {
	whole = append(slices.Clone(l), put(77, "spare", "1"), put(78, "spare", "2"))
	return whole[:len(l)], whole
}

func spareMap(m []api.KV) (handed, whole []api.KV) {
	whole = append(slices.Clone(m), kv("spare", "1", 77), kv("spare", "2", 78))
	return whole[:len(m)], whole
}

// spoil writes over all that a list has, and over the room behind it.
func spoil[T any](l []T) {
	clear(l[:cap(l)])
}

func TestNothingOfEventsIsShared(t *testing.T) {
	l := []api.Event{put(1, "a", "1"), put(1, "b", "2"), del(2, "c"), put(3, "d", "4")}
	calls := map[string]func([]api.Event) []api.Event{
		"Filter, all":  func(l []api.Event) []api.Event { return event.Filter(l, between("", "")) },
		"Filter, some": func(l []api.Event) []api.Event { return event.Filter(l, between("", "c")) },
		"Filter, none": func(l []api.Event) []api.Event { return event.Filter(l, between("x", "")) },
		"Last":         event.Last,
	}
	for name, call := range calls {
		for n := range len(l) + 1 {
			handed, whole := spare(l[:n])
			sharesNothing(t, name, call, handed, whole)
		}
	}
}

// sharesNothing asks a call of a list, which stands in all of some memory.
func sharesNothing[T comparable](t *testing.T, name string, call func([]T) []T, handed, whole []T) {
	t.Helper()
	was := slices.Clone(whole)
	told := call(handed)
	if !slices.Equal(whole, was) {
		t.Errorf("%s of %d: handed in is %v", name, len(handed), whole)
	}
	want := slices.Clone(told)
	spoil(whole)
	if !slices.Equal(told, want) {
		t.Errorf("%s of %d: told is %v, once what was handed in has changed", name, len(handed), told)
	}
	copy(whole, was)
	spoil(told)
	if !slices.Equal(whole, was) {
		t.Errorf("%s of %d: handed in is %v, once what was told has changed", name, len(handed), whole)
	}
	if again := call(handed); !slices.Equal(again, want) {
		t.Errorf("%s of %d: asked again: %v", name, len(handed), again)
	}
}

func TestNothingOfMapsIsShared(t *testing.T) {
	m := []api.KV{kv("a", "1", 1), kv("b", "2", 2), kv("c", "3", 3)}
	calls := map[string]func([]api.KV) []api.KV{
		"Restrict, all":      func(m []api.KV) []api.KV { return event.Restrict(m, between("", "")) },
		"Restrict, some":     func(m []api.KV) []api.KV { return event.Restrict(m, between("", "c")) },
		"Restrict, none":     func(m []api.KV) []api.KV { return event.Restrict(m, between("x", "")) },
		"Fold, no events":    func(m []api.KV) []api.KV { return event.Fold(m, nil) },
		"Fold, put over":     func(m []api.KV) []api.KV { return event.Fold(m, []api.Event{put(4, "b", "x")}) },
		"Fold, put above":    func(m []api.KV) []api.KV { return event.Fold(m, []api.Event{put(4, "d", "x")}) },
		"Fold, put below":    func(m []api.KV) []api.KV { return event.Fold(m, []api.Event{put(4, "", "x")}) },
		"Fold, deleted":      func(m []api.KV) []api.KV { return event.Fold(m, []api.Event{del(4, "a")}) },
		"Fold, one deleted":  func(m []api.KV) []api.KV { return event.Fold(m, []api.Event{del(4, "c")}) },
		"Fold, nothing left": func(m []api.KV) []api.KV { return event.Fold(m, []api.Event{del(4, "a"), del(4, "b"), del(4, "c")}) },
	}
	for name, call := range calls {
		for n := range len(m) + 1 {
			handed, whole := spareMap(m[:n])
			sharesNothing(t, name, call, handed, whole)
		}
	}
}

func TestFoldLeavesEventsAsTheyAre(t *testing.T) {
	l := []api.Event{put(4, "c", "1"), put(3, "a", "2"), del(2, "c")}
	handed, whole := spare(l)
	was := slices.Clone(whole)
	event.Fold([]api.KV{kv("b", "", 1)}, handed)
	if !slices.Equal(whole, was) {
		t.Errorf("handed in is %v", whole)
	}
}

// The rows, too, share nothing with each other.
func TestNothingOfRowsIsShared(t *testing.T) {
	l := []api.Event{put(1, "a", "1"), put(1, "b", "2"), put(2, "c", "3"), put(3, "d", "4"), put(3, "e", "5"), put(3, "f", "6")}
	for spoilt := range 3 {
		handed, whole := spare(l)
		was := slices.Clone(whole)
		told := event.Cut(handed)
		if !slices.Equal(whole, was) {
			t.Fatalf("handed in is %v", whole)
		}
		want := rows(l)
		spoil(told[spoilt])
		clear(want[spoilt])
		if !sameRows(told, want) {
			t.Errorf("row %d has changed: told is %v", spoilt, told)
		}
		if !slices.Equal(whole, was) {
			t.Errorf("row %d has changed: handed in is %v", spoilt, whole)
		}
		spoil(whole)
		if !sameRows(told, want) {
			t.Errorf("what was handed in has changed: told is %v", told)
		}
	}
}

// R2: nil and empty are the same, handed in.
func TestNilAndEmpty(t *testing.T) {
	r := between("a", "")
	l, m := []api.Event{put(1, "a", "x")}, []api.KV{kv("a", "x", 1)}
	if a, b := event.Filter(nil, r), event.Filter([]api.Event{}, r); len(a) != 0 || len(b) != 0 {
		t.Errorf("Filter: %v, %v", a, b)
	}
	if a, b := event.Restrict(nil, r), event.Restrict([]api.KV{}, r); len(a) != 0 || len(b) != 0 {
		t.Errorf("Restrict: %v, %v", a, b)
	}
	if a, b := event.Last(nil), event.Last([]api.Event{}); len(a) != 0 || len(b) != 0 {
		t.Errorf("Last: %v, %v", a, b)
	}
	if a, b := event.Cut(nil), event.Cut([]api.Event{}); len(a) != 0 || len(b) != 0 {
		t.Errorf("Cut: %v, %v", a, b)
	}
	if a, b := event.Fold(nil, l), event.Fold([]api.KV{}, l); !slices.Equal(a, m) || !slices.Equal(b, m) {
		t.Errorf("Fold of no map: %v, %v", a, b)
	}
	if a, b := event.Fold(m, nil), event.Fold(m, []api.Event{}); !slices.Equal(a, m) || !slices.Equal(b, m) {
		t.Errorf("Fold of no events: %v, %v", a, b)
	}
}

// R4: nothing is kept from call to call, and nothing hangs on the order of a map.
func TestAskedAgain(t *testing.T) {
	var l []api.Event
	for i := range 64 {
		l = append(l, put(i/3, string([]byte{byte(i * 37)}), "v"))
	}
	r := between("\x20", "\xc0")
	m := event.Fold(nil, l[:20])
	filter, last, fold, restrict, cut := event.Filter(l, r), event.Last(l), event.Fold(m, l), event.Restrict(m, r), event.Cut(l)
	for range 20 {
		if got := event.Filter(l, r); !slices.Equal(got, filter) {
			t.Fatalf("Filter: %v", got)
		}
		if got := event.Last(l); !slices.Equal(got, last) {
			t.Fatalf("Last: %v", got)
		}
		if got := event.Fold(m, l); !slices.Equal(got, fold) {
			t.Fatalf("Fold: %v", got)
		}
		if got := event.Restrict(m, r); !slices.Equal(got, restrict) {
			t.Fatalf("Restrict: %v", got)
		}
		if got := event.Cut(l); !sameRows(got, cut) {
			t.Fatalf("Cut: %v", got)
		}
	}
}

// P1: every call ends, and none panics.
func TestNoCallPanics(t *testing.T) {
	ls := [][]api.Event{nil, {}, {{}}, odd(), append(odd(), odd()...)}
	ms := [][]api.KV{nil, {}, {{}}, {kv("b", "", 1), kv("a", "", 1), kv("b", "x", -1)}, {kv(long(), long(), math.MinInt), kv("", "", math.MaxInt)}}
	rs := append(ranges(), between(long(), ""), between("", long()), between(long(), long()), between("\xff", "\x00"))
	for _, l := range ls {
		event.Last(l)
		event.Cut(l)
		for _, r := range rs {
			event.Filter(l, r)
		}
		for _, m := range ms {
			event.Fold(m, l)
		}
	}
	for _, m := range ms {
		for _, r := range rs {
			event.Restrict(m, r)
		}
	}
}
