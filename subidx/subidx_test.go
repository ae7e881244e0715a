package subidx_test

import (
	"cmp"
	"fmt"
	"math"
	"slices"
	"strings"
	"testing"

	"impost/api"
	"impost/key"
	"impost/subidx"
)

func between(from, to string) api.Range { return api.Range{From: from, To: to} }

func sub(id, rev int, r api.Range) subidx.Sub { return subidx.Sub{Id: id, Rev: rev, R: r} }

// all is the range that has every key.
var all = api.Range{}

// long is a text that is far longer than any key may be.
func long() string { return strings.Repeat("k", 1<<16) }

// brief is the begin of what a test prints, as ends may be long.
func brief(x any) string {
	s := fmt.Sprintf("%+v", x)
	return s[:min(len(s), 300)]
}

// far are numbers that are no revision, and no watch's number.
func far() []int {
	return []int{math.MinInt, math.MinInt + 1, -1 << 40, math.MinInt32, -1002, -2, -1, 1002, 1 << 16, math.MaxInt32, 1 << 40, math.MaxInt - 1, math.MaxInt}
}

// plain is what the chapter says, of watches in the turn in which they came.
type plain []subidx.Sub

func (p plain) place(id int) int {
	return slices.IndexFunc(p, func(s subidx.Sub) bool { return s.Id == id })
}

func (p *plain) add(s subidx.Sub) api.Errno {
	if s.R.To != "" && s.R.To <= s.R.From {
		return api.ErrArg
	}
	if p.place(s.Id) >= 0 {
		return api.ErrBusy
	}
	*p = append(*p, s)
	return api.OK
}

func (p *plain) del(id int) api.Errno {
	i := p.place(id)
	if i < 0 {
		return api.ErrNone
	}
	*p = slices.Delete(*p, i, i+1)
	return api.OK
}

func (p plain) stab(k string, rev int) []int {
	var ids []int
	for _, s := range p {
		if s.R.From <= k && (s.R.To == "" || k < s.R.To) && s.Rev < rev {
			ids = append(ids, s.Id)
		}
	}
	slices.Sort(ids)
	return ids
}

func (p plain) all() []subidx.Sub {
	l := slices.Clone(p)
	slices.SortFunc(l, func(a, b subidx.Sub) int {
		if c := strings.Compare(a.R.From, b.R.From); c != 0 {
			return c
		}
		return cmp.Compare(a.Id, b.Id)
	})
	return l
}

// keysOf are a watch's ends, and the keys beside them.
func keysOf(s subidx.Sub) []string {
	keys := []string{""}
	for _, end := range []string{s.R.From, s.R.To} {
		keys = append(keys, end, end+"\x00", end+"\xff")
		if n := len(end); n > 0 {
			keys = append(keys, end[:n-1], end[:n-1]+string([]byte{end[n-1] - 1}), end[:n-1]+string([]byte{end[n-1] - 1})+"\xff")
		}
	}
	return keys
}

// fits holds an index against what is said of the watches that are there, at some keys and revisions.
func fits(t *testing.T, why string, x *subidx.Index, p plain, keys []string, revs []int) {
	t.Helper()
	if got, want := x.All(), p.all(); !slices.Equal(got, want) {
		t.Fatalf("%s: there are %s, not %s", why, brief(got), brief(want))
	}
	for _, k := range keys {
		for _, rev := range revs {
			if got, want := x.Stab(k, rev), p.stab(k, rev); !slices.Equal(got, want) {
				t.Fatalf("%s: at %d, %s stabs %s, not %s", why, rev, brief(fmt.Sprintf("%q", k)), brief(got), brief(want))
			}
		}
	}
}

// fitsAll holds it so at all keys beside the watches' ends, and at all revisions beside theirs.
func fitsAll(t *testing.T, why string, x *subidx.Index, p plain) {
	t.Helper()
	keys := []string{"", "m", "\xff\xff"}
	revs := []int{0, 1}
	for _, s := range p {
		keys = append(keys, keysOf(s)...)
		revs = append(revs, s.Rev)
		if s.Rev > math.MinInt {
			revs = append(revs, s.Rev-1)
		}
		if s.Rev < math.MaxInt {
			revs = append(revs, s.Rev+1)
		}
	}
	slices.Sort(keys)
	slices.Sort(revs)
	fits(t, why, x, p, slices.Compact(keys), slices.Compact(revs))
}

// of is an index of watches.
func of(t *testing.T, l ...subidx.Sub) *subidx.Index {
	t.Helper()
	x := subidx.New()
	for _, s := range l {
		if err := x.Add(s); err != api.OK {
			t.Fatalf("%s: added: %d", brief(s), err)
		}
	}
	return x
}

// P11.1: New.

func TestNew(t *testing.T) {
	x := subidx.New()
	if x == nil {
		t.Fatal("New is nil")
	}
	fitsAll(t, "new", x, nil)
	y := subidx.New()
	x.Add(sub(1, 0, all))
	fitsAll(t, "another one", y, nil)
	if err := y.Del(1); err != api.ErrNone {
		t.Errorf("of another one: %d", err)
	}
	fitsAll(t, "the first one", x, plain{sub(1, 0, all)})
}

// P11.1: Add.

func TestAdd(t *testing.T) {
	cases := []struct {
		name string
		r    api.Range
		want api.Errno
	}{
		{"all keys", all, api.OK},
		{"from a key on", between("a", ""), api.OK},
		{"below a key", between("", "a"), api.OK},
		{"from a key to another one", between("a", "c"), api.OK},
		{"of one key", key.One("a"), api.OK},
		{"of a prefix", key.Prefix("a\xff"), api.OK},
		{"To just above From", between("a", "a\x00"), api.OK},
		{"To at From", between("a", "a"), api.ErrArg},
		{"To just below From", between("a\x00", "a"), api.ErrArg},
		{"To far below From", between("z", "a"), api.ErrArg},
		{"both empty but a byte 0", between("", "\x00"), api.OK},
		{"at a byte 0", between("\x00", "\x00"), api.ErrArg},
		{"just above a byte 0", between("\x00", "\x00\x00"), api.OK},
		{"to a byte 255", between("\xfe\xff", "\xff"), api.OK},
		{"from a byte 255", between("\xff", "\xfe\xff"), api.ErrArg},
		{"bytes are no runes", between("\xc3", "\xc3\xa9"), api.OK},
		{"bytes are no runes, falling", between("\xff", "é"), api.ErrArg},
		{"the longest From", between("abcdefgh", ""), api.OK},
		{"a From too long", between("abcdefghi", ""), api.OK},
		{"a To too long", between("a", "abcdefghij"), api.OK},
		{"both too long", between("abcdefghi", "abcdefghij"), api.OK},
		{"both too long, and at one another", between("abcdefghi", "abcdefghi"), api.ErrArg},
		{"both too long, falling", between("abcdefghij", "abcdefghi"), api.ErrArg},
		{"From far too long", between(long(), ""), api.OK},
		{"To far too long", between("", long()), api.OK},
		{"both far too long", between(long(), long()+"\x00"), api.OK},
		{"both far too long, and at one another", between(long(), long()), api.ErrArg},
		{"both far too long, falling", between(long()+"\x00", long()), api.ErrArg},
	}
	for _, c := range cases {
		for _, others := range []plain{nil, {sub(1, 0, all)}, {sub(3, 0, all), sub(1, 5, between("a", "b")), sub(2, 0, between("k", ""))}} {
			x := of(t, others...)
			p := slices.Clone(others)
			s := sub(9, 2, c.r)
			if err := x.Add(s); err != c.want {
				t.Errorf("%s, beside %d others: %d, not %d", c.name, len(others), err, c.want)
			}
			if c.want == api.OK {
				p = append(p, s)
			}
			fitsAll(t, c.name, x, p)
		}
	}
}

func TestAddOfAnIdThatIsThere(t *testing.T) {
	was := sub(4, 2, between("b", "d"))
	cases := []struct {
		name string
		s    subidx.Sub
		want api.Errno
	}{
		{"the same", was, api.ErrBusy},
		{"another range", sub(4, 2, between("a", "e")), api.ErrBusy},
		{"another begin", sub(4, 2, between("a", "d")), api.ErrBusy},
		{"another end", sub(4, 2, between("b", "")), api.ErrBusy},
		{"another revision", sub(4, 3, between("b", "d")), api.ErrBusy},
		{"all else", sub(4, -1, all), api.ErrBusy},
		{"an Empty range", sub(4, 2, between("b", "b")), api.ErrArg},
		{"another Id, and the same else", sub(5, 2, between("b", "d")), api.OK},
		{"another Id, and an Empty range", sub(5, 2, between("d", "b")), api.ErrArg},
	}
	others := plain{sub(2, 1, between("a", "")), was, sub(7, 0, between("c", ""))}
	for _, c := range cases {
		for _, l := range []plain{{was}, others} {
			x := of(t, l...)
			p := slices.Clone(l)
			if err := x.Add(c.s); err != c.want {
				t.Errorf("%s: %d, not %d", c.name, err, c.want)
			}
			if c.want == api.OK {
				p = append(p, c.s)
			}
			fitsAll(t, c.name, x, p)
		}
	}
}

func TestAddOfAnIdThatWent(t *testing.T) {
	first, second := sub(4, 2, between("b", "d")), sub(4, 5, between("a", "c"))
	for _, others := range []plain{nil, {sub(2, 1, between("a", "")), sub(7, 0, between("c", ""))}} {
		for _, again := range []subidx.Sub{first, second} {
			x := of(t, append(slices.Clone(others), first)...)
			if err := x.Del(4); err != api.OK {
				t.Fatalf("deleted: %d", err)
			}
			if err := x.Add(sub(4, 0, between("c", "b"))); err != api.ErrArg {
				t.Errorf("of an Empty range: %d", err)
			}
			fitsAll(t, "deleted", x, others)
			if err := x.Add(again); err != api.OK {
				t.Errorf("added again: %d", err)
			}
			fitsAll(t, "added again", x, append(slices.Clone(others), again))
			if err := x.Add(again); err != api.ErrBusy {
				t.Errorf("added once more: %d", err)
			}
		}
	}
}

func TestIdsOfAllNumbers(t *testing.T) {
	ids := append(far(), 0, 1, 2, 3)
	x := subidx.New()
	var p plain
	for i, id := range ids {
		s := sub(id, i%3, between(string([]byte{byte('a' + i*5%7)}), ""))
		if err := x.Add(s); err != api.OK {
			t.Errorf("%d: %d", id, err)
		}
		if err := x.Add(s); err != api.ErrBusy {
			t.Errorf("%d again: %d", id, err)
		}
		p = append(p, s)
		fitsAll(t, fmt.Sprint(id), x, p)
	}
	for _, id := range ids {
		if err := x.Del(id); err != api.OK {
			t.Errorf("%d deleted: %d", id, err)
		}
		p.del(id)
		fitsAll(t, fmt.Sprint(id, " deleted"), x, p)
	}
}

// P11.1: Del.

// five are watches that don't rise by their Ids as they do by their ranges.
func five() plain {
	return plain{sub(3, 0, between("a", "c")), sub(1, 1, between("b", "")), sub(5, 2, between("c", "d")), sub(2, 3, between("c", "e")), sub(4, 4, between("d", "z"))}
}

func TestDel(t *testing.T) {
	cases := []struct {
		name string
		l    plain
		id   int
		want api.Errno
	}{
		{"of none", nil, 1, api.ErrNone},
		{"of none, the zero one", nil, 0, api.ErrNone},
		{"the only one", five()[:1], 3, api.OK},
		{"another one than the only one", five()[:1], 1, api.ErrNone},
		{"the first one by ranges", five(), 3, api.OK},
		{"the first one by Ids", five(), 1, api.OK},
		{"the last one by ranges", five(), 4, api.OK},
		{"the last one by Ids", five(), 5, api.OK},
		{"one in between", five(), 2, api.OK},
		{"one there never was, below", five(), 0, api.ErrNone},
		{"one there never was, above", five(), 6, api.ErrNone},
		{"one there never was, far below", five(), math.MinInt, api.ErrNone},
		{"one there never was, far above", five(), math.MaxInt, api.ErrNone},
		{"a revision, not an Id", plain{sub(1, 7, all)}, 7, api.ErrNone},
	}
	for _, c := range cases {
		x := of(t, c.l...)
		p := slices.Clone(c.l)
		if err := x.Del(c.id); err != c.want {
			t.Errorf("%s: %d, not %d", c.name, err, c.want)
		}
		p.del(c.id)
		fitsAll(t, c.name, x, p)
		if err := x.Del(c.id); err != api.ErrNone {
			t.Errorf("%s, again: %d", c.name, err)
		}
		fitsAll(t, c.name+", again", x, p)
	}
}

func TestDelOfOneThatWasRefused(t *testing.T) {
	x := subidx.New()
	x.Add(sub(1, 0, between("b", "a")))
	if err := x.Del(1); err != api.ErrNone {
		t.Errorf("refused: %d", err)
	}
	x.Add(sub(1, 0, between("a", "b")))
	x.Add(sub(1, 0, between("c", "d")))
	fitsAll(t, "the first one is there", x, plain{sub(1, 0, between("a", "b"))})
	if err := x.Del(1); err != api.OK {
		t.Errorf("deleted: %d", err)
	}
	fitsAll(t, "deleted", x, nil)
	if err := x.Del(1); err != api.ErrNone {
		t.Errorf("deleted again: %d", err)
	}
}

// P11.1: All.

func TestAll(t *testing.T) {
	cases := []struct {
		name    string
		l, want []subidx.Sub
	}{
		{"none", nil, nil},
		{"one", plain{sub(1, 2, between("a", "b"))}, plain{sub(1, 2, between("a", "b"))}},
		{
			"one From, by Ids, whatever their ends and revisions",
			plain{sub(5, 0, between("a", "b")), sub(-1, 9, between("a", "")), sub(3, 4, between("a", "z")), sub(0, 4, between("a", "a\x00"))},
			plain{sub(-1, 9, between("a", "")), sub(0, 4, between("a", "a\x00")), sub(3, 4, between("a", "z")), sub(5, 0, between("a", "b"))},
		},
		{
			"many Froms, whatever the Ids",
			plain{sub(1, 0, between("c", "")), sub(2, 0, between("b", "")), sub(3, 0, between("a", "")), sub(4, 0, all)},
			plain{sub(4, 0, all), sub(3, 0, between("a", "")), sub(2, 0, between("b", "")), sub(1, 0, between("c", ""))},
		},
		{
			"byte by byte",
			plain{sub(1, 0, between("\xff", "")), sub(2, 0, between("é", "")), sub(3, 0, between("z", "")), sub(4, 0, between("ab", "")), sub(5, 0, between("a", "")), sub(6, 0, between("a\x00", "")), sub(7, 0, between("\x00", ""))},
			plain{sub(7, 0, between("\x00", "")), sub(5, 0, between("a", "")), sub(6, 0, between("a\x00", "")), sub(4, 0, between("ab", "")), sub(3, 0, between("z", "")), sub(2, 0, between("é", "")), sub(1, 0, between("\xff", ""))},
		},
		{
			"by begins, not by ends",
			plain{sub(1, 0, between("b", "c")), sub(2, 0, between("a", "")), sub(3, 0, between("a", "z")), sub(4, 0, between("b", "b\x00"))},
			plain{sub(2, 0, between("a", "")), sub(3, 0, between("a", "z")), sub(1, 0, between("b", "c")), sub(4, 0, between("b", "b\x00"))},
		},
		{
			"numbers far apart",
			plain{sub(math.MaxInt, 0, all), sub(math.MinInt, 0, all), sub(0, 0, all), sub(-1, 0, all), sub(1, 0, all)},
			plain{sub(math.MinInt, 0, all), sub(-1, 0, all), sub(0, 0, all), sub(1, 0, all), sub(math.MaxInt, 0, all)},
		},
		{
			"begins too long",
			plain{sub(1, 0, between(long()+"b", "")), sub(2, 0, between(long()+"a", "")), sub(3, 0, between(long(), ""))},
			plain{sub(3, 0, between(long(), "")), sub(2, 0, between(long()+"a", "")), sub(1, 0, between(long()+"b", ""))},
		},
	}
	for _, c := range cases {
		if got := of(t, c.l...).All(); !slices.Equal(got, c.want) {
			t.Errorf("%s: %s, not %s", c.name, brief(got), brief(c.want))
		}
		back := slices.Clone(c.l)
		slices.Reverse(back)
		if got := of(t, back...).All(); !slices.Equal(got, c.want) {
			t.Errorf("%s, added backward: %s, not %s", c.name, brief(got), brief(c.want))
		}
	}
}

// P11.2: Stab.

func TestStabOfAKey(t *testing.T) {
	l := plain{sub(6, 0, between("b", "d")), sub(2, 0, between("b", "b\x00")), sub(4, 0, between("c", "")), sub(1, 0, between("", "b")), sub(9, 0, between("x", "y"))}
	cases := []struct {
		name, k string
		want    []int
	}{
		{"at From", "b", []int{2, 6}},
		{"just below From", "a\xff\xff\xff\xff\xff\xff\xff", []int{1}},
		{"far below From", "a", []int{1}},
		{"just above From", "b\x00", []int{6}},
		{"inside", "bb", []int{6}},
		{"at To", "d", []int{4}},
		{"just below To", "c\xff", []int{4, 6}},
		{"at another From", "c", []int{4, 6}},
		{"above all ends", "\xff\xff", []int{4}},
		{"the empty text", "", []int{1}},
		{"at a begin far above the others' ends", "x", []int{4, 9}},
		{"behind it", "y", []int{4}},
		{"no rune", "b\xc3", []int{6}},
		{"too long a key", "bbbbbbbbbbbb", []int{6}},
		{"far too long a key", long(), []int{4}},
	}
	x := of(t, l...)
	for _, c := range cases {
		if got := x.Stab(c.k, 1); !slices.Equal(got, c.want) {
			t.Errorf("%s: %v, not %v", c.name, got, c.want)
		}
	}
}

func TestStabOfNoneAndOfAll(t *testing.T) {
	x := of(t, sub(2, 0, between("b", "d")), sub(1, 0, between("c", "e")), sub(3, 0, between("c", "")))
	cases := []struct {
		name, k string
		want    []int
	}{
		{"none has", "a", nil},
		{"none has, the empty text", "", nil},
		{"one has", "b", []int{2}},
		{"all have", "c", []int{1, 2, 3}},
		{"two have", "d", []int{1, 3}},
		{"another one has", "e", []int{3}},
	}
	for _, c := range cases {
		if got := x.Stab(c.k, 1); !slices.Equal(got, c.want) {
			t.Errorf("%s: %v, not %v", c.name, got, c.want)
		}
	}
	if got := subidx.New().Stab("c", 1); len(got) > 0 {
		t.Errorf("of an empty index: %v", got)
	}
}

func TestStabAtARevision(t *testing.T) {
	x := of(t, sub(1, 5, all), sub(2, 0, all), sub(3, -7, all), sub(4, math.MaxInt, all), sub(5, math.MinInt, all), sub(6, 5, between("a", "b")))
	cases := []struct {
		name string
		rev  int
		want []int
	}{
		{"at two of them", 5, []int{2, 3, 5}},
		{"one above", 6, []int{1, 2, 3, 5, 6}},
		{"one below", 4, []int{2, 3, 5}},
		{"at 0", 0, []int{3, 5}},
		{"at 1", 1, []int{2, 3, 5}},
		{"at one below 0", -7, []int{5}},
		{"just above that", -6, []int{3, 5}},
		{"far above, but below the highest", math.MaxInt - 1, []int{1, 2, 3, 5, 6}},
		{"the highest", math.MaxInt, []int{1, 2, 3, 5, 6}},
		{"just above the lowest", math.MinInt + 1, []int{5}},
		{"the lowest", math.MinInt, nil},
	}
	for _, c := range cases {
		if got := x.Stab("a", c.rev); !slices.Equal(got, c.want) {
			t.Errorf("%s: %v, not %v", c.name, got, c.want)
		}
	}
}

func TestStabOfIdsAgainstTheirRanges(t *testing.T) {
	// The Ids fall as the ranges rise, and are told rising all the same.
	x := subidx.New()
	var p plain
	for i := range 26 {
		s := sub(100-i, 0, between(string([]byte{'a' + byte(i)}), string([]byte{'a' + byte(i) + 4})))
		x.Add(s)
		p = append(p, s)
	}
	if got := x.Stab("e", 1); !slices.Equal(got, []int{96, 97, 98, 99}) {
		t.Errorf("%v", got)
	}
	fitsAll(t, "falling", x, p)
}

// texts are all texts of up to so many of some bytes.
func texts(most int, of ...byte) []string {
	l := []string{""}
	for i := 0; i < len(l); i++ {
		if len(l[i]) == most {
			break
		}
		for _, b := range of {
			l = append(l, l[i]+string([]byte{b}))
		}
	}
	return l
}

func TestOneWatchInEveryWay(t *testing.T) {
	ends := texts(2, 0, 'a', 255)
	keys := texts(3, 0, 'a', 255)
	for _, from := range ends {
		for _, to := range ends {
			x := subidx.New()
			var p plain
			s := sub(1, 3, between(from, to))
			if got, want := x.Add(s), p.add(s); got != want {
				t.Fatalf("%q to %q: %d, not %d", from, to, got, want)
			}
			fits(t, fmt.Sprintf("%q to %q", from, to), x, p, keys, []int{2, 3, 4})
		}
	}
}

func TestTwoWatchesInEveryWay(t *testing.T) {
	ends := texts(1, 0, 'a', 255)
	keys := texts(2, 0, 'a', 255)
	var ranges []api.Range
	for _, from := range ends {
		for _, to := range ends {
			ranges = append(ranges, between(from, to))
		}
	}
	for _, a := range ranges {
		for _, b := range ranges {
			x := subidx.New()
			var p plain
			for id, s := range []subidx.Sub{sub(2, 1, a), sub(1, 2, b)} {
				if got, want := x.Add(s), p.add(s); got != want {
					t.Fatalf("%q and %q, %d: %d, not %d", a, b, id, got, want)
				}
			}
			fits(t, fmt.Sprintf("%q and %q", a, b), x, p, keys, []int{1, 2, 3})
		}
	}
}

// Of an Index that is nil.

func TestOfNil(t *testing.T) {
	var x *subidx.Index
	ids := append(far(), 0, 1)
	for _, id := range ids {
		for _, r := range []api.Range{all, between("a", "b"), between("b", "a"), between(long(), "")} {
			if err := x.Add(sub(id, id, r)); err != api.ErrArg {
				t.Errorf("Add of %d: %d", id, err)
			}
		}
		if err := x.Del(id); err != api.ErrArg {
			t.Errorf("Del of %d: %d", id, err)
		}
		for _, k := range []string{"", "a", long()} {
			if l := x.Stab(k, id); l != nil {
				t.Errorf("Stab at %d: %v", id, l)
			}
		}
		if l := x.All(); l != nil {
			t.Errorf("All: %v", l)
		}
	}
}

// P11.3.

// turns are all turns of the numbers below n.
func turns(n int) [][]int {
	if n == 0 {
		return [][]int{nil}
	}
	var l [][]int
	for _, turn := range turns(n - 1) {
		for i := range n {
			l = append(l, slices.Insert(slices.Clone(turn), i, n-1))
		}
	}
	return l
}

// six are watches, of two of one From, of ends that nest, overlap, touch, and lie apart.
func six() plain {
	return plain{sub(4, 2, between("a", "d")), sub(1, 0, between("b", "c")), sub(6, 1, between("b", "")), sub(2, 3, between("c", "f")), sub(3, 0, between("d", "e")), sub(5, 5, between("g", "h"))}
}

func TestInEveryTurn(t *testing.T) {
	keys := texts(1, 'a', 'b', 'c', 'd', 'e', 'f', 'g', 'h')
	revs := []int{0, 2, 6}
	for _, turn := range turns(6) {
		x := subidx.New()
		for _, i := range turn {
			x.Add(six()[i])
		}
		fits(t, fmt.Sprint(turn), x, six(), keys, revs)
	}
}

func TestInEveryTurnWithOthersBetween(t *testing.T) {
	keys := texts(1, 'a', 'b', 'c', 'd', 'e', 'f', 'g', 'h')
	others := plain{sub(7, 0, all), sub(0, 0, between("c", "d")), sub(8, 0, between("g", "")), sub(-1, 0, between("b", "b\x00"))}
	for _, turn := range turns(6) {
		x := subidx.New()
		for n, i := range turn {
			x.Add(others[n%4])
			x.Add(six()[i])
			if n%2 == 1 {
				x.Del(others[(n-1)%4].Id)
				x.Del(others[n%4].Id)
			}
		}
		fits(t, fmt.Sprint(turn), x, six(), keys, []int{0, 2, 6})
	}
}

func TestGoneInEveryTurn(t *testing.T) {
	keys := texts(1, 'a', 'b', 'c', 'd', 'e', 'f', 'g', 'h')
	for _, turn := range turns(6) {
		x := of(t, six()...)
		p := six()
		for _, i := range turn {
			id := six()[i].Id
			if err := x.Del(id); err != api.OK {
				t.Fatalf("%v: %d: %d", turn, id, err)
			}
			p.del(id)
			fits(t, fmt.Sprint(turn), x, p, keys, []int{2, 6})
		}
	}
}

// change is a step: a watch that is added, or, with Gone, one that is deleted.
type change struct {
	s    subidx.Sub
	gone bool
}

func (c change) do(t *testing.T, why string, x *subidx.Index, p *plain) {
	t.Helper()
	got, want := api.OK, api.OK
	if c.gone {
		got, want = x.Del(c.s.Id), p.del(c.s.Id)
	} else {
		got, want = x.Add(c.s), p.add(c.s)
	}
	if got != want {
		t.Fatalf("%s: %s: %d, not %d", why, brief(c), got, want)
	}
}

func TestChangedInEveryWay(t *testing.T) {
	var changes []change
	for id := 1; id <= 3; id++ {
		for _, r := range []api.Range{between("a", "b"), between("b", "c")} {
			changes = append(changes, change{s: sub(id, id, r)})
		}
		changes = append(changes, change{s: sub(id, 0, all), gone: true})
	}
	changes = append(changes, change{s: sub(2, 0, between("b", "b"))})
	keys := []string{"", "a", "b", "c"}
	n := len(changes)
	for way := range n * n * n * n {
		x := subidx.New()
		var p plain
		for rest := way; rest > 0; rest /= n {
			changes[rest%n].do(t, fmt.Sprint(way), x, &p)
		}
		fits(t, fmt.Sprint(way), x, p, keys, []int{2, 4})
	}
}

// chance tells numbers that seem to have no order, the same each time.
type chance uint64

func (c *chance) below(n int) int {
	*c = *c*6364136223846793005 + 1442695040888963407
	return int(uint64(*c)>>33) % n
}

// text is one of up to so many of three letters.
func (c *chance) text(most int) string {
	b := make([]byte, c.below(most+1))
	for i := range b {
		b[i] = 'a' + byte(c.below(3))
	}
	return string(b)
}

// change is one of a watch with a number below ids.
func (c *chance) change(ids int) change {
	s := sub(c.below(ids), c.below(5), between(c.text(3), c.text(3)))
	return change{s: s, gone: c.below(5) < 2}
}

func TestLongWays(t *testing.T) {
	keys := texts(3, 'a', 'b', 'c')
	for seed := range 6 {
		c := chance(seed)
		for _, ids := range []int{4, 30, 300} {
			x := subidx.New()
			var p plain
			for n := range 3000 {
				why := fmt.Sprint(seed, " of ", ids, ", step ", n)
				c.change(ids).do(t, why, x, &p)
				k := c.text(4)
				if rev := c.below(7); !slices.Equal(x.Stab(k, rev), p.stab(k, rev)) {
					t.Fatalf("%s: at %d, %q stabs %s, not %s", why, rev, k, brief(x.Stab(k, rev)), brief(p.stab(k, rev)))
				}
				if n%100 == 0 {
					fits(t, why, x, p, keys, []int{0, 3, 5})
				}
			}
		}
	}
}

// number is a text that is as high as a number is.
func number(n int) string { return fmt.Sprintf("%07d", n) }

func TestManyWatches(t *testing.T) {
	const n = 1 << 14
	ways := []struct {
		name  string
		place func(i int) int
	}{
		{"rising", func(i int) int { return i }},
		{"falling", func(i int) int { return n - 1 - i }},
		{"from both ends", func(i int) int {
			if i%2 == 0 {
				return i / 2
			}
			return n - 1 - i/2
		}},
		{"from between", func(i int) int { return i * 7919 % n }},
	}
	for _, w := range ways {
		x := subidx.New()
		for i := range n {
			at := w.place(i)
			x.Add(sub(at, 0, between(number(at), number(at+3))))
		}
		l := x.All()
		if len(l) != n {
			t.Fatalf("%s: there are %d", w.name, len(l))
		}
		for i := range n {
			if l[i].Id != i {
				t.Fatalf("%s: %d stands at %d", w.name, l[i].Id, i)
			}
			if got := x.Stab(number(i), 1); !slices.Equal(got, []int{max(i-2, 0), max(i-1, 0), i}[2-min(i, 2):]) {
				t.Fatalf("%s: %d stabs %s", w.name, i, brief(got))
			}
		}
		for i := range n {
			if at := w.place(i); at%2 == 0 && x.Del(at) != api.OK {
				t.Fatalf("%s: %d isn't there", w.name, at)
			}
		}
		for i := range n - 2 {
			if got, want := x.Stab(number(i+2), 1), i|1; !slices.Contains(got, want) || len(got) > 2 {
				t.Fatalf("%s: %d stabs %s, once half of them went", w.name, i+2, brief(got))
			}
		}
	}
}

// The chapter's example.

func TestExample(t *testing.T) {
	x := of(t, sub(1, 0, between("a", "c")), sub(2, 0, between("b", "")))
	for k, want := range map[string][]int{"b": {1, 2}, "a": {1}, "c": {2}, "A": nil} {
		if got := x.Stab(k, 1); !slices.Equal(got, want) {
			t.Errorf("%q: %v, not %v", k, got, want)
		}
	}
}

// R3: what is told is the caller's own.

func TestWhatIsToldIsTheCallers(t *testing.T) {
	l := five()
	x := of(t, l...)
	subs := x.All()
	ids := x.Stab("c", 9)
	others := x.Stab("c", 9)
	for i := range subs[:cap(subs)] {
		subs[:cap(subs)][i] = sub(77, 77, between("x", "y"))
	}
	for i := range ids[:cap(ids)] {
		ids[:cap(ids)][i] = 77
	}
	if !slices.Equal(others, []int{1, 2, 5}) {
		t.Errorf("told another time: %v", others)
	}
	fitsAll(t, "written into", x, five())
	s := sub(9, 0, between("m", "n"))
	x.Add(s)
	s.R, s.Id, s.Rev = all, 10, 9
	fitsAll(t, "what was handed in is changed", x, append(five(), sub(9, 0, between("m", "n"))))
	before := x.All()
	x.Del(9)
	x.Add(sub(0, 0, all))
	if !slices.Equal(before, append(plain(five()), sub(9, 0, between("m", "n"))).all()) {
		t.Errorf("what was told changes with the index: %s", brief(before))
	}
}

// R4: nothing is kept but what is said; asked again, the same is told.

func TestAskedAgain(t *testing.T) {
	x := of(t, five()...)
	for range 3 {
		fitsAll(t, "asked again", x, five())
		x.Add(sub(3, 9, all))
		x.Add(sub(6, 9, between("b", "a")))
		x.Del(6)
	}
	y := of(t, five()...)
	y.Del(3)
	fitsAll(t, "beside another one", x, five())
	fitsAll(t, "the other one", y, five()[1:])
}

// P1: no call panics, at all arguments.
func TestNoCallPanics(t *testing.T) {
	ends := []string{"", "\x00", "a", "a\x00", "\xff", "abcdefgh", "abcdefghi", long()}
	numbers := append(far(), 0, 1)
	for _, x := range []*subidx.Index{nil, subidx.New(), of(t, five()...)} {
		for _, from := range ends {
			for _, to := range ends {
				for _, n := range numbers {
					x.Add(sub(n, n, between(from, to)))
					x.Stab(from, n)
					x.Stab(to, n)
				}
				x.All()
				for _, n := range numbers {
					x.Del(n)
					x.Del(n)
				}
			}
		}
	}
}
