package token_test

import (
	"bytes"
	"math"
	"strings"
	"testing"

	"impost/api"
	"impost/key"
	"impost/token"
)

func between(from, to string) api.Range { return api.Range{From: from, To: to} }

// of is a token of a range.
func of(r api.Range, next int, once bool) token.Token {
	return token.Token{R: r, Next: next, Once: once}
}

// all is the range that has every key.
var all = api.Range{}

// either are the two ways of Once.
var either = []bool{false, true}

// long is a text that is far longer than any key may be.
func long() string { return strings.Repeat("k", 1<<16) }

// same is a text of so many bytes.
func same(n int, b byte) string { return string(bytes.Repeat([]byte{b}, n)) }

// remainder is a number modulo another one, from 0 on.
func remainder(n, by int) int {
	return (n%by + by) % by
}

// may tells whether a token may be, in the chapters' words.
func may(t token.Token) bool {
	from, to := t.R.From, t.R.To
	ends := len(from) <= 8 && (len(to) <= 8 || len(to) == 9 && to[8] == 0)
	return ends && (to == "" || from < to) && 1 <= t.Next && t.Next <= 1001
}

// laid is a token's bytes, in the chapter's words.
func laid(t token.Token) string {
	l := []byte{119}
	if t.Once {
		l[0] = 111
	}
	next := remainder(t.Next, 65536)
	l = append(l, byte(next/256), byte(next%256))
	for _, s := range []string{t.R.From, t.R.To} {
		l = append(l, byte(len(s)%256))
		for i := range len(s) {
			l = append(l, s[i])
		}
	}
	return string(l)
}

// brief is the begin of a text.
func brief(s string) string { return s[:min(len(s), 30)] }

// refused holds Take to ErrForm, with all else zero.
func refused(t *testing.T, why, s string) {
	t.Helper()
	if got, err := token.Take(s); err != api.ErrForm || got != (token.Token{}) {
		t.Errorf("%s: Take(%q), of %d bytes: %+v, %d", why, brief(s), len(s), got, err)
	}
}

// taken holds Take to a token.
func taken(t *testing.T, s string, want token.Token) {
	t.Helper()
	if got, err := token.Take(s); err != api.OK || got != want {
		t.Errorf("Take(%q): %+v, %d; not %+v", brief(s), got, err, want)
	}
}

// ends are texts that ranges have as ends: of all lengths that may be and one more, with bytes that the form has a use for among them.
func ends() []string {
	l := []string{"", "\x00", "\x01", "\x02", "a", "b", "o", "w", "\x77\x00\x01\x00\x00", "\x7f", "\x80", "\xff", "é", "\x00\x00", "a\x00", "\x00a", "\x01a", "\x02ab", "\xff\xff"}
	for n := 3; n <= 8; n++ {
		for _, b := range []byte{0, byte(n), 'a', 'w', 255} {
			l = append(l, same(n, b))
		}
	}
	for _, b := range []byte{0, 9, 'a', 'w', 255} {
		l = append(l, same(8, b)+"\x00", same(9, b))
	}
	return l
}

// tokens are those of all pairs of ends, with these numbers, each in both ways.
func tokens(ends []string, nexts ...int) []token.Token {
	var l []token.Token
	for _, from := range ends {
		for _, to := range ends {
			for _, n := range nexts {
				for _, o := range either {
					l = append(l, of(between(from, to), n, o))
				}
			}
		}
	}
	return l
}

// P9.1: May.

func TestMayByNext(t *testing.T) {
	if api.MaxRev != 1000 {
		t.Fatalf("MaxRev is %d", api.MaxRev)
	}
	cases := []struct {
		next int
		may  bool
	}{
		{0, false},
		{1, true},
		{2, true},
		{255, true},
		{256, true},
		{1000, true},
		{1001, true},
		{1002, false},
		{1003, false},
		{-1, false},
		{-1001, false},
		{65535, false},
		{65536, false},
		{65536 + 1, false},
		{65536 + 1001, false},
		{65536 + 1002, false},
		{2*65536 + 5, false},
		{1 - 65536, false},
		{1001 - 65536, false},
		{256 + 1 - 2*65536, false},
		{1<<32 + 1, false},
		{1<<40 + 1001, false},
		{-1<<40 + 1, false},
		{math.MaxInt, false},
		{math.MinInt, false},
		{math.MinInt + 1, false},
		{math.MinInt + 1001, false},
	}
	for _, c := range cases {
		for _, r := range []api.Range{all, key.One("a"), between("", "b"), between("12345678", "")} {
			for _, o := range either {
				if got := token.May(of(r, c.next, o)); got != c.may {
					t.Errorf("May of %q, Next %d, Once %v: %v", r, c.next, o, got)
				}
			}
		}
	}
}

func TestMayOfEachNext(t *testing.T) {
	for n := -1100; n <= 70000; n++ {
		if got := token.May(of(all, n, n%2 == 0)); got != (n >= 1 && n <= 1001) {
			t.Fatalf("May of Next %d: %v", n, got)
		}
	}
}

func TestMayByRange(t *testing.T) {
	const a8, b8 = "aaaaaaaa", "bbbbbbbb"
	cases := []struct {
		name string
		r    api.Range
		may  bool
	}{
		{"of all keys", all, true},
		{"no To", between("a", ""), true},
		{"no From", between("", "a"), true},
		{"both", between("a", "b"), true},
		{"both of 8", between(a8, b8), true},
		{"From of 9", between(a8+"a", ""), false},
		{"From of 9, the last one 0", between(a8+"\x00", ""), false},
		{"To of 9, the last one 0", between("", a8+"\x00"), true},
		{"To of 9, as One's", key.One(a8), true},
		{"To of 9, the last one 1", between("", a8+"\x01"), false},
		{"To of 10", between("", a8+"\x00\x00"), false},
		{"of no key: To at From", between("a", "a"), false},
		{"of no key: To below From", between("b", "a"), false},
		{"From of 256", between(same(256, 'a'), ""), false},
		{"From of 257", between(same(257, 'a'), ""), false},
		{"To of 256", between("", same(256, 0)), false},
		{"To of 265, the last one 0", between("", same(265, 0)), false},
		{"From far too long", between(long(), ""), false},
		{"To far too long", between("", long()), false},
	}
	for _, c := range cases {
		for _, o := range either {
			for _, n := range []int{1, 5, 1001} {
				if got := token.May(of(c.r, n, o)); got != c.may {
					t.Errorf("%s: May with Next %d, Once %v: %v", c.name, n, o, got)
				}
			}
			for _, n := range []int{0, 1002, -1, 65537} {
				if token.May(of(c.r, n, o)) {
					t.Errorf("%s: May with Next %d, Once %v", c.name, n, o)
				}
			}
		}
	}
}

func TestMayInEveryWay(t *testing.T) {
	for _, x := range tokens(ends(), 0, 1, 500, 1001, 1002, -65535, 65537) {
		want := may(x)
		if got := token.May(x); got != want {
			t.Fatalf("May(%+v): %v", x, got)
		}
		if want != (key.MayRange(x.R) && x.Next >= 1 && x.Next <= 1001) {
			t.Fatalf("the test's own May of %+v", x)
		}
	}
}

// P9.1: Put.

// The chapter's example, and others byte by byte.
func TestPut(t *testing.T) {
	const a8 = "aaaaaaaa"
	cases := []struct {
		name string
		t    token.Token
		want string
	}{
		{"the chapter's example", of(all, 5, false), "\x77\x00\x05\x00\x00"},
		{"Once", of(all, 5, true), "\x6f\x00\x05\x00\x00"},
		{"no To", of(between("a", ""), 1, false), "w\x00\x01\x01a\x00"},
		{"no From", of(between("", "a"), 1, false), "w\x00\x01\x00\x01a"},
		{"both", of(between("ab", "cde"), 2, true), "o\x00\x02\x02ab\x03cde"},
		{"Next's higher byte", of(all, 256, false), "w\x01\x00\x00\x00"},
		{"both bytes of Next", of(all, 0x3e9, false), "w\x03\xe9\x00\x00"},
		{"the byte ahead of the higher one", of(all, 255, false), "w\x00\xff\x00\x00"},
		{"the highest two bytes", of(all, 65535, false), "w\xff\xff\x00\x00"},
		{"modulo 65536: 0", of(all, 65536, true), "o\x00\x00\x00\x00"},
		{"modulo 65536: 1", of(all, 65537, false), "w\x00\x01\x00\x00"},
		{"modulo 65536: bytes above", of(all, 0x12345678, false), "w\x56\x78\x00\x00"},
		{"Next 0", of(all, 0, false), "w\x00\x00\x00\x00"},
		{"Next -1", of(all, -1, false), "w\xff\xff\x00\x00"},
		{"Next -2", of(all, -2, true), "o\xff\xfe\x00\x00"},
		{"Next -256", of(all, -256, false), "w\xff\x00\x00\x00"},
		{"Next -65535", of(all, -65535, false), "w\x00\x01\x00\x00"},
		{"Next -65536", of(all, -65536, false), "w\x00\x00\x00\x00"},
		{"Next -65537", of(all, -65537, false), "w\xff\xff\x00\x00"},
		{"the lowest Next", of(all, math.MinInt, false), "w\x00\x00\x00\x00"},
		{"the lowest Next but 5", of(all, math.MinInt+5, false), "w\x00\x05\x00\x00"},
		{"the highest Next", of(all, math.MaxInt, false), "w\xff\xff\x00\x00"},
		{"of one key of 8 bytes", of(key.One(a8), 7, false), "w\x00\x07\x08" + a8 + "\x09" + a8 + "\x00"},
		{"bytes, not runes", of(between("é", "世"), 7, false), "w\x00\x07\x02\xc3\xa9\x03\xe4\xb8\x96"},
		{"no runes at all", of(between("\x80\xff", "\xff\xc3"), 7, false), "w\x00\x07\x02\x80\xff\x02\xff\xc3"},
		{"bytes 0", of(between("\x00", "\x00\x00"), 7, false), "w\x00\x07\x01\x00\x02\x00\x00"},
		{"To below From", of(between("b", "a"), 7, false), "w\x00\x07\x01b\x01a"},
		{"of 9 bytes", of(between(a8+"a", a8+"b"), 7, false), "w\x00\x07\x09" + a8 + "a\x09" + a8 + "b"},
		{"From of 128", of(between(same(128, 'k'), ""), 7, false), "w\x00\x07\x80" + same(128, 'k') + "\x00"},
		{"From of 255", of(between(same(255, 'k'), ""), 7, false), "w\x00\x07\xff" + same(255, 'k') + "\x00"},
		{"From of 256", of(between(same(256, 'k'), ""), 7, false), "w\x00\x07\x00" + same(256, 'k') + "\x00"},
		{"From of 257", of(between(same(257, 'k'), "l"), 7, false), "w\x00\x07\x01" + same(257, 'k') + "\x01l"},
		{"To of 128", of(between("", same(128, 0xff)), 7, false), "w\x00\x07\x00\x80" + same(128, 0xff)},
		{"To of 255", of(between("", same(255, 'k')), 7, false), "w\x00\x07\x00\xff" + same(255, 'k')},
		{"To of 256", of(between("", same(256, 'k')), 7, false), "w\x00\x07\x00\x00" + same(256, 'k')},
		{"To of 257", of(between("a", same(257, 'k')), 7, true), "o\x00\x07\x01a\x01" + same(257, 'k')},
		{"both of 300", of(between(same(300, 0), same(300, 9)), 0, true), "o\x00\x00\x2c" + same(300, 0) + "\x2c" + same(300, 9)},
		{"the zero token", token.Token{}, "w\x00\x00\x00\x00"},
	}
	for _, c := range cases {
		if got := token.Put(c.t); got != c.want {
			t.Errorf("%s: Put: %q, of %d bytes", c.name, brief(got), len(got))
		}
		if want := laid(c.t); want != c.want {
			t.Fatalf("%s: the test's own bytes: %q", c.name, brief(want))
		}
	}
}

func TestPutOfEachNext(t *testing.T) {
	for n := -140000; n <= 140000; n++ {
		x := of(key.One("k"), n, n%3 == 0)
		if got := token.Put(x); got != laid(x) {
			t.Fatalf("Put with Next %d: %q", n, got)
		}
	}
}

func TestPutOfEachLength(t *testing.T) {
	for n := range 600 {
		for _, r := range []api.Range{between(same(n, 'x'), "y"), between("x", same(n, 'y')), between(same(n, 'x'), same(n+1, 0))} {
			x := of(r, 300, n%2 == 0)
			if got := token.Put(x); got != laid(x) {
				t.Fatalf("Put with ends of %d and %d bytes: %q, of %d bytes", len(r.From), len(r.To), brief(got), len(got))
			}
		}
	}
	x := of(between(long(), long()+"k"), 1, false)
	if got := token.Put(x); got != laid(x) {
		t.Errorf("Put with ends of %d bytes: %q, of %d bytes", len(long()), brief(got), len(got))
	}
}

func TestPutOfEachByte(t *testing.T) {
	for b := range 256 {
		for n := 1; n < 10; n++ {
			x := of(between(same(n, byte(b)), same(10-n, byte(255-b))), 1, true)
			if got := token.Put(x); got != laid(x) {
				t.Fatalf("Put(%+v): %q", x, got)
			}
		}
	}
}

func TestPutInEveryWay(t *testing.T) {
	for _, x := range tokens(ends(), 0, 1, 258, 1001, 1002, 65535, 65537, -1, -70000) {
		if got := token.Put(x); got != laid(x) {
			t.Fatalf("Put(%+v): %q", x, got)
		}
	}
}

// P9.1: Take.

func TestTake(t *testing.T) {
	const a8 = "aaaaaaaa"
	taken(t, "\x77\x00\x05\x00\x00", of(all, 5, false))
	taken(t, "\x6f\x00\x05\x00\x00", of(all, 5, true))
	taken(t, "w\x00\x01\x01a\x00", of(between("a", ""), 1, false))
	taken(t, "w\x00\x01\x00\x01a", of(between("", "a"), 1, false))
	taken(t, "o\x01\x02\x02ab\x03cde", of(between("ab", "cde"), 258, true))
	taken(t, "w\x03\xe9\x00\x00", of(all, 1001, false))
	taken(t, "w\x00\xff\x00\x00", of(all, 255, false))
	taken(t, "w\x01\x00\x00\x00", of(all, 256, false))
	taken(t, "w\x00\x07\x08"+a8+"\x09"+a8+"\x00", of(key.One(a8), 7, false))
	taken(t, "w\x00\x07\x00\x09\x00\x00\x00\x00\x00\x00\x00\x00\x00", of(between("", same(9, 0)), 7, false))
	taken(t, "w\x00\x07\x02\x80\xff\x02\xff\xc3", of(between("\x80\xff", "\xff\xc3"), 7, false))
	taken(t, "w\x00\x07\x01\x00\x02\x00\x00", of(key.One("\x00"), 7, false))
	taken(t, "w\x00\x07\x01\x00\x00", of(between("\x00", ""), 7, false))
}

func TestTakeRefuses(t *testing.T) {
	const a8, b8 = "aaaaaaaa", "bbbbbbbb"
	cases := []struct{ why, s string }{
		{"no bytes", ""},
		{"one byte", "w"},
		{"one byte, Once", "o"},
		{"two bytes", "w\x00"},
		{"three bytes", "w\x00\x05"},
		{"four bytes", "w\x00\x05\x00"},
		{"four bytes, Once", "o\x00\x05\x00"},
		{"another first byte: 0", "\x00\x00\x05\x00\x00"},
		{"another first byte: 110", "n\x00\x05\x00\x00"},
		{"another first byte: 112", "p\x00\x05\x00\x00"},
		{"another first byte: 118", "v\x00\x05\x00\x00"},
		{"another first byte: 120", "x\x00\x05\x00\x00"},
		{"another first byte: 87", "W\x00\x05\x00\x00"},
		{"another first byte: 79", "O\x00\x05\x00\x00"},
		{"both first bytes", "wo\x00\x05\x00\x00"},
		{"Next 0", "w\x00\x00\x00\x00"},
		{"Next 1002", "w\x03\xea\x00\x00"},
		{"Next 1024", "w\x04\x00\x00\x00"},
		{"Next 65535", "w\xff\xff\x00\x00"},
		{"Next the lower byte first", "w\x05\x00\x00\x00"},
		{"From: one byte too few", "w\x00\x05\x01"},
		{"From: all there, and no To", "w\x00\x05\x01a"},
		{"From: greater than there are", "w\x00\x05\x03a\x00"},
		{"From: 255, and two bytes", "w\x00\x05\xff\x00\x00"},
		{"From: smaller", "w\x00\x05\x01aa\x00"},
		{"From: 0, and a byte", "w\x00\x05\x00a\x00"},
		{"To: greater than there are", "w\x00\x05\x00\x02a"},
		{"To: greater by one, and nothing", "w\x00\x05\x00\x01"},
		{"To: 255", "w\x00\x05\x00\xff"},
		{"To: smaller", "w\x00\x05\x00\x01ab"},
		{"To: 0, and a byte", "w\x00\x05\x00\x00a"},
		{"a byte 0 more", "w\x00\x05\x00\x00\x00"},
		{"a byte more ahead", "\x00w\x00\x05\x00\x00"},
		{"From of 9", "w\x00\x05\x09" + a8 + "a\x00"},
		{"From of 9, the last one 0", "w\x00\x05\x09" + a8 + "\x00\x00"},
		{"To of 9, the last one not 0", "w\x00\x05\x00\x09" + a8 + "a"},
		{"To of 10, the last one 0", "w\x00\x05\x00\x0a" + a8 + "a\x00"},
		{"To of 10, the last two 0", "w\x00\x05\x00\x0a" + a8 + "\x00\x00"},
		{"To at From", "w\x00\x05\x01a\x01a"},
		{"To below From", "w\x00\x05\x01b\x01a"},
		{"To below From, of 9", "w\x00\x05\x08" + b8 + "\x09" + a8 + "\x00"},
		{"1000 bytes 0", same(1000, 0)},
		{"1000 bytes 119", same(1000, 'w')},
		{"1000 bytes 111", same(1000, 'o')},
		{"1000 bytes, a token at the begin", "w\x00\x05\x00\x00" + same(995, 0)},
		{"1000 bytes, From of them", "w\x00\x05\xff" + same(995, 'a')},
		{"far too many", "w\x00\x05\x00\x00" + long()},
	}
	for _, c := range cases {
		refused(t, c.why, c.s)
	}
}

// The first byte, and each of Next's, in every way.
func TestTakeOfEachFirstByte(t *testing.T) {
	for b := range 256 {
		s := string([]byte{byte(b), 0, 5, 1, 'a', 1, 'b'})
		if b == 119 || b == 111 {
			taken(t, s, of(between("a", "b"), 5, b == 111))
		} else {
			refused(t, "another first byte", s)
		}
	}
}

func TestTakeOfEachNext(t *testing.T) {
	for n := range 65536 {
		for _, o := range either {
			x := of(between("a", "b"), n, o)
			if s := laid(x); n >= 1 && n <= 1001 {
				taken(t, s, x)
			} else {
				refused(t, "Next", s)
			}
		}
	}
}

// Every number of bytes, of From and of To, ahead of as many as there are.
func TestTakeOfEachNumber(t *testing.T) {
	for from := range 11 {
		for to := range 11 {
			for n := range 256 {
				x := of(between(same(from, 'a'), same(to, 'b')), 9, false)
				l := []byte(laid(x))
				l[3] = byte(n)
				held(t, string(l))
				l[3] = byte(from)
				l[4+from] = byte(n)
				held(t, string(l))
			}
		}
	}
}

// held holds Take, with ErrForm or without, to the chapter's words: what is taken may be, and has these bytes. That nothing is refused for which there is a token is seen by TestTakeInEveryWay.
func held(t *testing.T, s string) {
	t.Helper()
	got, err := token.Take(s)
	if err == api.OK && may(got) && laid(got) == s {
		return
	}
	if err != api.ErrForm || got != (token.Token{}) {
		t.Fatalf("Take(%q): %+v, %d", brief(s), got, err)
	}
}

// What is cut off, or set behind, or ahead: one byte, or more.
func TestTakeOfLessAndMore(t *testing.T) {
	known := map[string]bool{}
	l := tokens(ends(), 1, 5, 1001)
	for _, x := range l {
		if may(x) {
			known[laid(x)] = true
		}
	}
	for _, x := range l {
		if !may(x) {
			continue
		}
		s := laid(x)
		for _, c := range []string{s[1:], s[:len(s)-1], s[2:], s[:len(s)-2]} {
			held(t, c)
		}
		for _, b := range []string{"\x00", "\x01", "a", "w", "o", "\xff"} {
			held(t, b+s)
			if _, err := token.Take(s + b); err != api.ErrForm {
				t.Fatalf("Take(%q), a byte more than a token's: %d", s+b, err)
			}
		}
		// A token's bytes tell how many they are, so none is another one's begin.
		for n := range len(s) {
			if _, err := token.Take(s[:n]); err != api.ErrForm || known[s[:n]] {
				t.Fatalf("Take(%q), the begin of a token's bytes: %d", s[:n], err)
			}
		}
	}
}

// All texts of 3 to 7 bytes of some: just those are taken that are of a token that may be.
func TestTakeInEveryWay(t *testing.T) {
	some := []byte{0, 1, 2, 3, 111, 119}
	const most = 7
	known := map[string]token.Token{}
	for _, x := range tokens(textsOf(some, most-5), nextsOf(some)...) {
		if may(x) {
			known[laid(x)] = x
		}
	}
	n := 0
	for _, s := range textsOf(some, most) {
		got, err := token.Take(s)
		want, ok := known[s]
		if ok {
			n++
		}
		if ok != (err == api.OK) || !ok && err != api.ErrForm || got != want {
			t.Fatalf("Take(%q): %+v, %d", s, got, err)
		}
	}
	if n == 0 || n > len(known) {
		t.Errorf("%d of %d tokens were looked at", n, len(known))
	}
}

// textsOf are all texts of so many of these bytes at most.
func textsOf(some []byte, most int) []string {
	l := []string{""}
	begin := 0
	for range most {
		end := len(l)
		for _, s := range l[begin:end] {
			for _, b := range some {
				l = append(l, s+string([]byte{b}))
			}
		}
		begin = end
	}
	return l
}

// nextsOf are the numbers of two of these bytes.
func nextsOf(some []byte) []int {
	var l []int
	for _, a := range some {
		for _, b := range some {
			l = append(l, int(a)*256+int(b))
		}
	}
	return l
}

// The bytes of a token that may not be are refused, but if they are another one's that may be.
func TestTakeOfWhatMayNotBe(t *testing.T) {
	for _, x := range tokens(ends(), 0, 1, 1001, 1002, -1) {
		if s := token.Put(x); !may(x) {
			refused(t, "may not be", s)
		}
	}
	for _, n := range []int{65537, -65535, 65536 + 1001, 1<<40 + 5} {
		x := of(key.One("a"), n, true)
		taken(t, token.Put(x), of(key.One("a"), remainder(n, 65536), true))
	}
	for n := 9; n < 600; n++ {
		for _, b := range []byte{0, 'a', 255} {
			refused(t, "a long From", token.Put(of(between(same(n, b), ""), 5, false)))
			if n > 9 || b != 0 {
				refused(t, "a long To", token.Put(of(between("", same(n, b)), 5, false)))
			}
			refused(t, "long ends", token.Put(of(between(same(n, b), same(n, b)+"\x00"), 5, true)))
		}
	}
	// 256 bytes of From are told as 0, and 257 as 1: so they begin as another token's.
	refused(t, "From of 256", token.Put(of(between("\x04aaaa"+same(251, 0), ""), 5, false)))
	refused(t, "From of 257", token.Put(of(between("a"+same(256, 0), ""), 5, false)))
}

// P9.2.

func TestThereAndBack(t *testing.T) {
	n := 0
	for _, x := range tokens(ends(), 1, 2, 255, 256, 257, 1000, 1001) {
		if !may(x) {
			continue
		}
		n++
		if got, err := token.Take(token.Put(x)); err != api.OK || got != x {
			t.Fatalf("there and back: %+v, from %+v, %d", got, x, err)
		}
	}
	if n < 1000 {
		t.Errorf("just %d tokens", n)
	}
}

func TestThereAndBackOfEachNext(t *testing.T) {
	for n := 1; n <= 1001; n++ {
		for _, o := range either {
			for _, r := range []api.Range{all, key.One("12345678"), key.Prefix("\xff")} {
				x := of(r, n, o)
				taken(t, token.Put(x), x)
			}
		}
	}
}

// Every length that either end may have, with every byte.
func TestThereAndBackOfEachLength(t *testing.T) {
	for from := range 9 {
		for to := range 10 {
			for b := range 256 {
				r := between(same(from, byte(b)), same(to, byte(255-b)))
				if to == 9 {
					r.To = r.To[:8] + "\x00"
				}
				if x := of(r, 77, b%2 == 0); may(x) {
					taken(t, token.Put(x), x)
				}
			}
		}
	}
}

func TestUnlike(t *testing.T) {
	seen := map[string]token.Token{}
	for _, x := range tokens(ends(), 1, 2, 255, 256, 257, 512, 513, 1000, 1001) {
		if !may(x) {
			continue
		}
		s := token.Put(x)
		if y, ok := seen[s]; ok && y != x {
			t.Fatalf("%+v and %+v have the same bytes, %q", x, y, s)
		}
		seen[s] = x
	}
}

// Such as differ in one part alone.
func TestUnlikeInOnePart(t *testing.T) {
	x := of(between("ab", "cd"), 258, false)
	others := []token.Token{
		of(between("ab", "cd"), 258, true),
		of(between("ab", "cd"), 257, false),
		of(between("ab", "cd"), 514, false),
		of(between("ab", "cd"), 1, false),
		of(between("ab", "cd"), 513, false), // the bytes of Next, the other way round
		of(between("", "cd"), 258, false),
		of(between("a", "cd"), 258, false),
		of(between("aa", "cd"), 258, false),
		of(between("ab\x00", "cd"), 258, false),
		of(between("abc", "cd"), 258, false),
		of(between("ab", ""), 258, false),
		of(between("ab", "c"), 258, false),
		of(between("ab", "ce"), 258, false),
		of(between("ab", "cd\x00"), 258, false),
		of(between("ab", "cdd"), 258, false),
		of(between("abc", "d"), 258, false), // the same bytes, cut elsewhere
		of(between("a", "bcd"), 258, false),
		of(between("ab\x02cd", ""), 258, false),
		of(between("", "abcd"), 258, false),
	}
	for _, y := range others {
		if !token.May(y) {
			t.Fatalf("%+v may not be", y)
		}
		if token.Put(x) == token.Put(y) {
			t.Errorf("%+v and %+v have the same bytes", x, y)
		}
		taken(t, token.Put(y), y)
	}
	taken(t, token.Put(x), x)
}

// R3, R4: asked again, in whatever order, the same is told, and what was handed in is as it was.
func TestAskedAgain(t *testing.T) {
	x := of(between("ab", "cd"), 258, true)
	first := token.Put(x)
	token.Put(of(key.One("zz"), 9, false))
	token.Take("w\x00\x05\x00\x00")
	token.Take("nothing")
	if x != of(between("ab", "cd"), 258, true) {
		t.Errorf("what was handed in is %+v", x)
	}
	for range 3 {
		if got := token.Put(x); got != first {
			t.Errorf("Put, again: %q, not %q", got, first)
		}
		taken(t, first, x)
	}
}

// What was told stays as it is, whatever becomes of the bytes that a text was made of.
func TestTakeOfBytesThatChange(t *testing.T) {
	l := []byte(laid(of(between("ab", "cd"), 258, true)))
	x, err := token.Take(string(l))
	clear(l)
	if err != api.OK || x != of(between("ab", "cd"), 258, true) {
		t.Errorf("Take: %+v, %d", x, err)
	}
}

// P1: no call panics, at all arguments.
func TestNoCallPanics(t *testing.T) {
	nexts := []int{math.MinInt, -1 << 40, -65537, -1, 0, 1, 1001, 1002, 65535, 65536, 1 << 40, math.MaxInt}
	texts := append(ends(), same(255, 'a'), same(256, 0), same(257, 'w'), long())
	for _, x := range tokens(texts, nexts...) {
		if len(x.R.From)+len(x.R.To) > 1000 && x.Next != 1 {
			continue
		}
		token.May(x)
		s := token.Put(x)
		token.Take(s)
		token.Take(s[1:])
		token.Take(s[:len(s)-1])
	}
	for _, s := range texts {
		for n := range min(len(s), 300) {
			token.Take(s[:n])
			token.Take(s[n:])
			token.Take("w\x00\x01" + s[n:])
			token.Take("o\x00\x01" + s[:n])
		}
	}
}
