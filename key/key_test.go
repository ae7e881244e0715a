package key_test

import (
	"strings"
	"testing"

	"impost/api"
	"impost/key"
)

// below tells whether a key is lower than another one, in the chapter's words: byte by byte, and one that the other one begins with is.
func below(a, b string) bool {
	for i := 0; i < len(a) && i < len(b); i++ {
		if a[i] != b[i] {
			return a[i] < b[i]
		}
	}
	return len(a) < len(b)
}

// has tells whether a range has a key, in the chapter's words.
func has(r api.Range, k string) bool {
	if r.To == "" {
		return !below(k, r.From)
	}
	return !below(k, r.From) && below(k, r.To)
}

// begins tells whether a key begins with something.
func begins(k, p string) bool {
	if len(k) < len(p) {
		return false
	}
	for i := 0; i < len(p); i++ {
		if k[i] != p[i] {
			return false
		}
	}
	return true
}

// texts are all of so many bytes at most, of those that are handed in, the empty one among them.
func texts(most int, of ...byte) []string {
	all, row := []string{""}, []string{""}
	for range most {
		var next []string
		for _, s := range row {
			for _, b := range of {
				next = append(next, s+string([]byte{b}))
			}
		}
		all, row = append(all, next...), next
	}
	return all
}

// ranges are all with these ends.
func ranges(ends []string) []api.Range {
	var l []api.Range
	for _, from := range ends {
		for _, to := range ends {
			l = append(l, api.Range{From: from, To: to})
		}
	}
	return l
}

// whole is the range of all keys.
func whole() api.Range { return api.Range{} }

// long is a text that is far longer than any key may be.
func long() string { return strings.Repeat("a", 1<<20) }

// P4.1: May.

func TestMayByLength(t *testing.T) {
	if api.MaxKey != 8 {
		t.Fatalf("MaxKey is %d", api.MaxKey)
	}
	for n := range 40 {
		for _, b := range []string{"\x00", "a", "\x7f", "\x80", "\xff"} {
			k := strings.Repeat(b, n)
			if got, want := key.May(k), n >= 1 && n <= 8; got != want {
				t.Errorf("May of %d bytes %q: %v", n, b, got)
			}
		}
	}
	if key.May(long()) {
		t.Errorf("May of a key of %d bytes", len(long()))
	}
}

// Bytes count, not runes, whatever they are.
func TestMayOfBytes(t *testing.T) {
	cases := []struct {
		k   string
		may bool
	}{
		{"", false},
		{"\x00", true},
		{"\xff", true},
		{"key", true},
		{"a\x00b", true},
		{"12345678", true},
		{"123456789", false},
		{"1234567\x00", true},
		{"12345678\x00", false},
		{"\x0012345678", false},
		{"éééé", true},
		{"ééééé", false},
		{"世界世", false},
		{"世界ab", true},
		{"\xc3\xc3\xc3\xc3\xc3\xc3\xc3\xc3", true},
	}
	for _, c := range cases {
		if got := key.May(c.k); got != c.may {
			t.Errorf("May(%q): %v", c.k, got)
		}
	}
}

func TestMayOfEachByte(t *testing.T) {
	for b := range 256 {
		if k := string([]byte{byte(b)}); !key.May(k) {
			t.Errorf("May(%q) is false", k)
		}
	}
}

// P4.1: In.

func TestIn(t *testing.T) {
	bd := api.Range{From: "b", To: "d"}
	from := api.Range{From: "b"}
	to := api.Range{To: "d"}
	cases := []struct {
		name string
		r    api.Range
		k    string
		in   bool
	}{
		{"at From", bd, "b", true},
		{"just below From", bd, "a\xff\xff\xff\xff\xff\xff\xff", false},
		{"just above From", bd, "b\x00", true},
		{"between", bd, "c", true},
		{"between, and longer", bd, "cccccccc", true},
		{"just below To", bd, "c\xff\xff\xff\xff\xff\xff\xff", true},
		{"at To", bd, "d", false},
		{"just above To", bd, "d\x00", false},
		{"far above To", bd, "e", false},
		{"the empty key", bd, "", false},
		{"no To: at From", from, "b", true},
		{"no To: below From", from, "a", false},
		{"no To: the highest key", from, "\xff\xff\xff\xff\xff\xff\xff\xff", true},
		{"no To: the empty key", from, "", false},
		{"no From: the empty key", to, "", true},
		{"no From: a byte 0", to, "\x00", true},
		{"no From: just below To", to, "c\xff", true},
		{"no From: at To", to, "d", false},
		{"all: the empty key", whole(), "", true},
		{"all: a byte 0", whole(), "\x00", true},
		{"all: bytes 255", whole(), "\xff\xff", true},
		{"a key that From begins with", api.Range{From: "ab", To: "b"}, "a", false},
		{"a key that From is the begin of", api.Range{From: "ab", To: "b"}, "abc", true},
		{"a key that To begins with", api.Range{From: "a", To: "bc"}, "b", true},
		{"a key that To is the begin of", api.Range{From: "a", To: "bc"}, "bcd", false},
		{"To with a byte 0 behind", api.Range{From: "a", To: "b\x00"}, "b", true},
		{"To with a byte 0 behind, at To", api.Range{From: "a", To: "b\x00"}, "b\x00", false},
		{"bytes above 127 are higher", api.Range{From: "a", To: "\x80"}, "\x7f\xff", true},
		{"bytes above 127, at To", api.Range{From: "a", To: "\x80"}, "\x80", false},
		{"bytes above 127, beyond", api.Range{From: "a", To: "\x80"}, "\xff", false},
		{"longer than any may be", bd, "c" + long(), true},
		{"longer than any may be, beyond", bd, "d" + long(), false},
		{"Empty: To at From", api.Range{From: "b", To: "b"}, "b", false},
		{"Empty: at From", api.Range{From: "c", To: "a"}, "c", false},
		{"Empty: at To", api.Range{From: "c", To: "a"}, "a", false},
		{"Empty: between", api.Range{From: "c", To: "a"}, "b", false},
		{"Empty: below both", api.Range{From: "c", To: "a"}, "", false},
		{"Empty: above both", api.Range{From: "c", To: "a"}, "d", false},
	}
	for _, c := range cases {
		if got := key.In(c.r, c.k); got != c.in {
			t.Errorf("%s: In(%q, %.20q): %v", c.name, c.r, c.k, got)
		}
	}
}

// Keys of one byte: each byte against each.
func TestInOfEachByte(t *testing.T) {
	for a := range 256 {
		for b := range 256 {
			x, k := string([]byte{byte(a)}), string([]byte{byte(b)})
			if got := key.In(api.Range{From: x}, k); got != (b >= a) {
				t.Fatalf("from %q on, In of %q: %v", x, k, got)
			}
			if got := key.In(api.Range{To: x}, k); got != (b < a) {
				t.Fatalf("below %q, In of %q: %v", x, k, got)
			}
		}
	}
}

// P4.1: Empty.

func TestEmpty(t *testing.T) {
	cases := []struct {
		name  string
		r     api.Range
		empty bool
	}{
		{"both empty", whole(), false},
		{"no To", api.Range{From: "b"}, false},
		{"no To, the highest From", api.Range{From: "\xff\xff\xff\xff\xff\xff\xff\xff"}, false},
		{"no From", api.Range{To: "b"}, false},
		{"no From, the lowest To", api.Range{To: "\x00"}, false},
		{"To above From", api.Range{From: "b", To: "c"}, false},
		{"To at From", api.Range{From: "b", To: "b"}, true},
		{"To below From", api.Range{From: "b", To: "a"}, true},
		{"To far below From", api.Range{From: "\xff", To: "\x00"}, true},
		{"From begins with To", api.Range{From: "bb", To: "b"}, true},
		{"To begins with From", api.Range{From: "b", To: "bb"}, false},
		{"To is From and a byte 0", api.Range{From: "b", To: "b\x00"}, false},
		{"From is To and a byte 0", api.Range{From: "b\x00", To: "b"}, true},
		{"bytes 0, From longer", api.Range{From: "\x00\x00", To: "\x00"}, true},
		{"bytes 0, To longer", api.Range{From: "\x00", To: "\x00\x00"}, false},
		{"bytes above 127", api.Range{From: "\x7f", To: "\x80"}, false},
		{"bytes above 127, To below", api.Range{From: "\x80", To: "\x7f"}, true},
		{"of no key that may be", api.Range{From: "aaaaaaaa\x00", To: "aaaaaaaa\x01"}, false},
		{"long ones, To at From", api.Range{From: long(), To: long()}, true},
		{"long ones, To above From", api.Range{From: long(), To: long() + "\x00"}, false},
	}
	for _, c := range cases {
		if got := key.Empty(c.r); got != c.empty {
			t.Errorf("%s: Empty(%.20q, %.20q): %v", c.name, c.r.From, c.r.To, got)
		}
	}
}

// In, and Empty, of all ranges of short ends, and all short keys, against the chapter's words; and Empty is of just those that have none.
func TestInAndEmptyInEveryWay(t *testing.T) {
	ends := texts(2, 0, 1, 97, 98, 254, 255)
	keys := texts(3, 0, 1, 97, 98, 254, 255)
	for _, r := range ranges(ends) {
		some := false
		for _, k := range keys {
			want := has(r, k)
			if got := key.In(r, k); got != want {
				t.Fatalf("In(%q, %q): %v", r, k, got)
			}
			some = some || want
		}
		// A range that has any key has From.
		if got := key.Empty(r); got == some || got == has(r, r.From) {
			t.Fatalf("Empty(%q): %v", r, got)
		}
	}
}

// P4.1: MayRange.

func TestMayRange(t *testing.T) {
	const a8, b8 = "aaaaaaaa", "bbbbbbbb"
	cases := []struct {
		name string
		r    api.Range
		may  bool
	}{
		{"of all keys", whole(), true},
		{"no To", api.Range{From: "a"}, true},
		{"no From", api.Range{To: "a"}, true},
		{"both", api.Range{From: "a", To: "b"}, true},
		{"both of 8", api.Range{From: a8, To: b8}, true},
		{"From of 8, no To", api.Range{From: a8}, true},
		{"From of 9, no To", api.Range{From: a8 + "a"}, false},
		{"From of 9, the last one 0, no To", api.Range{From: a8 + "\x00"}, false},
		{"From of 9", api.Range{From: a8 + "a", To: "b"}, false},
		{"From of 9, the last one 0", api.Range{From: a8 + "\x00", To: "b"}, false},
		{"From of 9, To of 9, both with 0", api.Range{From: a8 + "\x00", To: b8 + "\x00"}, false},
		{"From of 10", api.Range{From: a8 + "\x00\x00", To: b8}, false},
		{"To of 8, no From", api.Range{To: b8}, true},
		{"To of 8, the last one 0", api.Range{To: "bbbbbbb\x00"}, true},
		{"To of 9, the last one 0", api.Range{From: "a", To: b8 + "\x00"}, true},
		{"To of 9, the last one 0, no From", api.Range{To: b8 + "\x00"}, true},
		{"To of 9, the last one 0, From of 8", api.Range{From: a8, To: b8 + "\x00"}, true},
		{"To of 9, the last one 0, as One's", api.Range{From: a8, To: a8 + "\x00"}, true},
		{"To of 9, the last one 1", api.Range{From: "a", To: b8 + "\x01"}, false},
		{"To of 9, the last one 48", api.Range{From: "a", To: b8 + "0"}, false},
		{"To of 9, the last one 97", api.Range{From: "a", To: a8 + "a"}, false},
		{"To of 9, the last one 255", api.Range{From: "a", To: b8 + "\xff"}, false},
		{"To of 9, 0 ahead of the last one", api.Range{From: "a", To: "bbbbbbb\x00b"}, false},
		{"To of 9, 0 at its begin", api.Range{To: "\x00bbbbbbbb"}, false},
		{"To of 9, all 0", api.Range{To: "\x00\x00\x00\x00\x00\x00\x00\x00\x00"}, true},
		{"To of 10, the last one 0", api.Range{From: "a", To: b8 + "b\x00"}, false},
		{"To of 10, the last two 0", api.Range{From: "a", To: b8 + "\x00\x00"}, false},
		{"To of 10, the ninth one 0", api.Range{From: "a", To: b8 + "\x00b"}, false},
		{"To of 10, all 0", api.Range{To: "\x00\x00\x00\x00\x00\x00\x00\x00\x00\x00"}, false},
		{"runes that have more bytes", api.Range{From: "ééééé"}, false},
		{"runes of 8 bytes", api.Range{From: "aéééb", To: "éééé"}, true},
		{"runes of 10 bytes", api.Range{From: "a", To: "ééééé"}, false},
		{"Empty: To at From", api.Range{From: "a", To: "a"}, false},
		{"Empty: To at From, of 8", api.Range{From: a8, To: a8}, false},
		{"Empty: To below From", api.Range{From: "b", To: "a"}, false},
		{"Empty: To of 9, the last one 0", api.Range{From: b8, To: a8 + "\x00"}, false},
		{"Empty: From begins with To", api.Range{From: a8, To: "aaaaaaa"}, false},
		{"To begins with From", api.Range{From: "aaaaaaa", To: a8}, true},
		{"long From", api.Range{From: long()}, false},
		{"long To", api.Range{To: long()}, false},
		{"long To, the last one 0", api.Range{To: long() + "\x00"}, false},
		{"both long", api.Range{From: long(), To: long() + "\x00"}, false},
	}
	for _, c := range cases {
		if got := key.MayRange(c.r); got != c.may {
			t.Errorf("%s: MayRange(%.20q, %.20q): %v", c.name, c.r.From, c.r.To, got)
		}
	}
}

// All lengths of both ends, and all bytes at To's end.
func TestMayRangeByLengths(t *testing.T) {
	for from := range 12 {
		for to := 1; to < 12; to++ {
			for b := range 256 {
				r := api.Range{From: strings.Repeat("a", from), To: strings.Repeat("b", to-1) + string([]byte{byte(b)})}
				ends := to <= 8 || to == 9 && b == 0
				want := from <= 8 && ends && below(r.From, r.To)
				if got := key.MayRange(r); got != want {
					t.Fatalf("MayRange(%q): %v", r, got)
				}
			}
		}
		r := api.Range{From: strings.Repeat("a", from)}
		if got := key.MayRange(r); got != (from <= 8) {
			t.Errorf("MayRange(%q): %v", r, got)
		}
	}
}

// What may be is of One, and of Prefix, of what may be.
func TestMayRangeOfOneAndPrefix(t *testing.T) {
	for n := range 11 {
		for _, b := range []string{"\x00", "a", "\xfe", "\xff"} {
			k := strings.Repeat(b, n)
			if got := key.MayRange(key.One(k)); got != (n <= 8) {
				t.Errorf("MayRange(One(%q)): %v", k, got)
			}
			if got := key.MayRange(key.Prefix(k)); got != (n <= 8) {
				t.Errorf("MayRange(Prefix(%q)): %v", k, got)
			}
		}
	}
}

// P4.2: One.

func TestOne(t *testing.T) {
	cases := []struct {
		k    string
		want api.Range
	}{
		{"", api.Range{From: "", To: "\x00"}},
		{"a", api.Range{From: "a", To: "a\x00"}},
		{"abc", api.Range{From: "abc", To: "abc\x00"}},
		{"\x00", api.Range{From: "\x00", To: "\x00\x00"}},
		{"a\x00", api.Range{From: "a\x00", To: "a\x00\x00"}},
		{"a\x00\x00", api.Range{From: "a\x00\x00", To: "a\x00\x00\x00"}},
		{"\xff", api.Range{From: "\xff", To: "\xff\x00"}},
		{"12345678", api.Range{From: "12345678", To: "12345678\x00"}},
		{"1234567\x00", api.Range{From: "1234567\x00", To: "1234567\x00\x00"}},
		{"\xff\xff\xff\xff\xff\xff\xff\xff", api.Range{From: "\xff\xff\xff\xff\xff\xff\xff\xff", To: "\xff\xff\xff\xff\xff\xff\xff\xff\x00"}},
		{"123456789", api.Range{From: "123456789", To: "123456789\x00"}},
	}
	for _, c := range cases {
		if got := key.One(c.k); got != c.want {
			t.Errorf("One(%q): %q", c.k, got)
		}
	}
	if r := key.One(long()); r.From != long() || r.To != long()+"\x00" {
		t.Errorf("One of a long key: %d and %d bytes", len(r.From), len(r.To))
	}
}

// P4.2: Prefix.

func TestPrefix(t *testing.T) {
	cases := []struct {
		p, to string
	}{
		{"", ""},
		{"a", "b"},
		{"ab", "ac"},
		{"\x00", "\x01"},
		{"a\x00", "a\x01"},
		{"\xfe", "\xff"},
		{"a\xfe", "a\xff"},
		{"\xff", ""},
		{"\xff\xff", ""},
		{"\xff\xff\xff\xff\xff\xff\xff\xff", ""},
		{"a\xff", "b"}, // the chapter's example
		{"a\xff\xff", "b"},
		{"ab\xff", "ac"},
		{"\xfe\xff", "\xff"},
		{"\xff\xfe", "\xff\xff"},
		{"\xff\xfe\xff", "\xff\xff"},
		{"\xffa", "\xffb"},
		{"\xffa\xff\xff", "\xffb"},
		{"a\xffb", "a\xffc"},
		{"a\xffb\xff", "a\xffc"},
		{"\x00\xff", "\x01"},
		{"\x7f", "\x80"},
		{"\x7f\xff", "\x80"},
		{"\x80", "\x81"},
		{"é", "\xc3\xaa"},
		{"12345678", "12345679"},
		{"1234567\xff", "1234568"},
		{"1234567\x00", "1234567\x01"},
		{"123456789", "12345678:"},
	}
	for _, c := range cases {
		if got := key.Prefix(c.p); got != (api.Range{From: c.p, To: c.to}) {
			t.Errorf("Prefix(%q): %q", c.p, got)
		}
	}
	if r := key.Prefix(long()); r.From != long() || r.To != long()[1:]+"b" {
		t.Errorf("Prefix of a long one: %d and %d bytes", len(r.From), len(r.To))
	}
}

// The chapter's example, by what it has.
func TestPrefixOfTheExample(t *testing.T) {
	r := key.Prefix(string([]byte{97, 255}))
	if r != (api.Range{From: string([]byte{97, 255}), To: string([]byte{98})}) {
		t.Fatalf("Prefix: %q", r)
	}
	for k, in := range map[string]int{"a": 0, "a\xfe\xff": 0, "a\xff": 1, "a\xff\x00": 1, "a\xff\xff": 1, "b": 0, "b\xff": 0, "": 0} {
		if got := key.In(r, k); got != (in == 1) {
			t.Errorf("In(%q, %q): %v", r, k, got)
		}
	}
}

// Of each byte: alone, behind another one, and ahead of bytes 255.
func TestPrefixOfEachByte(t *testing.T) {
	for b := range 255 {
		for _, ahead := range []string{"", "a", "\x00", "\xff"} {
			for _, behind := range []string{"", "\xff", "\xff\xff\xff"} {
				p := ahead + string([]byte{byte(b)}) + behind
				want := api.Range{From: p, To: ahead + string([]byte{byte(b + 1)})}
				if got := key.Prefix(p); got != want {
					t.Errorf("Prefix(%q): %q", p, got)
				}
			}
		}
	}
}

// P4.2: Meet.

func TestMeet(t *testing.T) {
	bf := api.Range{From: "b", To: "f"}
	cases := []struct {
		name string
		a, b api.Range
		want api.Range
		ok   bool
	}{
		{"one over the other", bf, api.Range{From: "d", To: "h"}, api.Range{From: "d", To: "f"}, true},
		{"one within the other", bf, api.Range{From: "c", To: "e"}, api.Range{From: "c", To: "e"}, true},
		{"within, at From", bf, api.Range{From: "b", To: "e"}, api.Range{From: "b", To: "e"}, true},
		{"within, at To", bf, api.Range{From: "c", To: "f"}, api.Range{From: "c", To: "f"}, true},
		{"with itself", bf, bf, bf, true},
		{"apart", bf, api.Range{From: "g", To: "h"}, whole(), false},
		{"far apart", bf, api.Range{From: "\xfe", To: "\xff"}, whole(), false},
		{"side by side", bf, api.Range{From: "f", To: "g"}, whole(), false},
		{"at one key", bf, api.Range{From: "a", To: "b\x00"}, api.Range{From: "b", To: "b\x00"}, true},
		{"at one key, as One", bf, key.One("c"), key.One("c"), true},
		{"One of From", bf, key.One("b"), key.One("b"), true},
		{"One of To", bf, key.One("f"), whole(), false},
		{"One of another key", key.One("b"), key.One("c"), whole(), false},
		{"One with itself", key.One("b"), key.One("b"), key.One("b"), true},
		{"no To on one side", bf, api.Range{From: "c"}, api.Range{From: "c", To: "f"}, true},
		{"no To on one side, From below", bf, api.Range{From: "a"}, bf, true},
		{"no To on one side, From at To", bf, api.Range{From: "f"}, whole(), false},
		{"no To on one side, From above", bf, api.Range{From: "g"}, whole(), false},
		{"no To on both", api.Range{From: "b"}, api.Range{From: "c"}, api.Range{From: "c"}, true},
		{"no To on both, the same From", api.Range{From: "b"}, api.Range{From: "b"}, api.Range{From: "b"}, true},
		{"no From on one side", bf, api.Range{To: "c"}, api.Range{From: "b", To: "c"}, true},
		{"no From on one side, To at From", bf, api.Range{To: "b"}, whole(), false},
		{"no From on both", api.Range{To: "b"}, api.Range{To: "c"}, api.Range{To: "b"}, true},
		{"no To, and no From", api.Range{From: "b"}, api.Range{To: "c"}, api.Range{From: "b", To: "c"}, true},
		{"no To, and no From, apart", api.Range{From: "c"}, api.Range{To: "c"}, whole(), false},
		{"all and some", whole(), bf, bf, true},
		{"all and all", whole(), whole(), whole(), true},
		{"prefixes, one of the other", key.Prefix("a"), key.Prefix("ab"), key.Prefix("ab"), true},
		{"prefixes apart", key.Prefix("aa"), key.Prefix("ab"), whole(), false},
		{"From that begins with the other", api.Range{From: "b"}, api.Range{From: "b\x00"}, api.Range{From: "b\x00"}, true},
		{"To that begins with the other", api.Range{To: "b"}, api.Range{To: "b\x00"}, api.Range{To: "b"}, true},
		{"bytes above 127", api.Range{From: "\x7f", To: "\xff"}, api.Range{From: "\x80", To: "\xfe"}, api.Range{From: "\x80", To: "\xfe"}, true},
		{"Empty with all", api.Range{From: "c", To: "a"}, whole(), whole(), false},
		{"Empty with what is around it", api.Range{From: "d", To: "c"}, bf, whole(), false},
		{"Empty with itself", api.Range{From: "c", To: "a"}, api.Range{From: "c", To: "a"}, whole(), false},
		{"Empty, To at From", api.Range{From: "c", To: "c"}, bf, whole(), false},
		{"Empty, on both sides", api.Range{From: "c", To: "a"}, api.Range{From: "d", To: "d"}, whole(), false},
		{"longer than any may be", api.Range{From: "aaaaaaaaaa", To: "cccccccccc"}, api.Range{From: "aaaaaaaaab", To: "cccccccccb"}, api.Range{From: "aaaaaaaaab", To: "cccccccccb"}, true},
	}
	for _, c := range cases {
		if got, ok := key.Meet(c.a, c.b); got != c.want || ok != c.ok {
			t.Errorf("%s: Meet(%q, %q): %q, %v", c.name, c.a, c.b, got, ok)
		}
		if got, ok := key.Meet(c.b, c.a); got != c.want || ok != c.ok {
			t.Errorf("%s, the other way round: Meet(%q, %q): %q, %v", c.name, c.b, c.a, got, ok)
		}
	}
}

// P4.3: what follows.

func TestOneHasJustItsKey(t *testing.T) {
	keys := texts(3, 0, 1, 97, 254, 255)
	for _, k := range keys {
		r := key.One(k)
		for _, other := range texts(4, 0, 1, 97, 254, 255) {
			if got := key.In(r, other); got != (other == k) {
				t.Fatalf("In(One(%q), %q): %v", k, other, got)
			}
		}
	}
	for _, k := range []string{"12345678", "1234567\x00", "\xff\xff\xff\xff\xff\xff\xff\xff", long()} {
		for other, in := range map[string]int{k: 1, k + "\x00": 0, k[:len(k)-1]: 0, k + "\xff": 0, "": 0} {
			if got := key.In(key.One(k), other); got != (in == 1) {
				t.Errorf("In(One(%.20q), %.20q): %v", k, other, got)
			}
		}
	}
}

func TestPrefixHasJustWhatBeginsSo(t *testing.T) {
	keys := texts(4, 0, 1, 97, 254, 255)
	for _, p := range texts(3, 0, 1, 97, 254, 255) {
		r := key.Prefix(p)
		for _, k := range keys {
			if got := key.In(r, k); got != begins(k, p) {
				t.Fatalf("In(Prefix(%q), %q): %v", p, k, got)
			}
		}
	}
}

// All ranges of short ends with each other, those that are Empty among them.
func TestMeetHasJustWhatBothHave(t *testing.T) {
	all := ranges(texts(2, 0, 97, 255))
	keys := texts(3, 0, 97, 255)
	for _, a := range all {
		for _, b := range all {
			m, ok := key.Meet(a, b)
			if !ok && m != whole() {
				t.Fatalf("Meet(%q, %q): %q, %v", a, b, m, ok)
			}
			some := false
			for _, k := range keys {
				both := has(a, k) && has(b, k)
				if ok && has(m, k) != both {
					t.Fatalf("Meet(%q, %q): %q, of which %q is", a, b, m, k)
				}
				some = some || both
			}
			if ok != some {
				t.Fatalf("Meet(%q, %q): %q, %v", a, b, m, ok)
			}
		}
	}
}

// Meet is told the same in whatever turn, and grouped however.
func TestMeetOfThree(t *testing.T) {
	all := ranges(texts(1, 0, 97, 98, 255))
	for _, a := range all {
		for _, b := range all {
			ab, ok := key.Meet(a, b)
			if ba, back := key.Meet(b, a); ab != ba || ok != back {
				t.Fatalf("Meet(%q, %q): %q, %v; the other way round %q, %v", a, b, ab, ok, ba, back)
			}
			for _, c := range all {
				bc, fine := key.Meet(b, c)
				if !ok || !fine {
					continue
				}
				left, l := key.Meet(ab, c)
				right, r := key.Meet(a, bc)
				if left != right || l != r {
					t.Fatalf("Meet of %q, %q, %q: %q, %v, or %q, %v", a, b, c, left, l, right, r)
				}
			}
		}
	}
}

// R4: nothing is kept from call to call.
func TestAskedAgain(t *testing.T) {
	a, b := api.Range{From: "a", To: "d"}, api.Range{From: "b"}
	for range 3 {
		if m, ok := key.Meet(a, b); !ok || m != (api.Range{From: "b", To: "d"}) {
			t.Errorf("Meet: %q, %v", m, ok)
		}
		if m, ok := key.Meet(a, api.Range{From: "e"}); ok || m != whole() {
			t.Errorf("Meet of what is apart: %q, %v", m, ok)
		}
		if r := key.Prefix("a\xff"); r != (api.Range{From: "a\xff", To: "b"}) {
			t.Errorf("Prefix: %q", r)
		}
		if r := key.One("a"); r != (api.Range{From: "a", To: "a\x00"}) || !key.May("a") || !key.MayRange(r) || !key.In(r, "a") || key.Empty(r) {
			t.Errorf("One: %q", r)
		}
	}
}

// P1: every call ends, and none panics.
func TestNoCallPanics(t *testing.T) {
	all := append(texts(1, 0, 97, 128, 255), "12345678", "12345678\x00", "123456789", "\xff\xff\xff\xff\xff\xff\xff\xff\xff", strings.Repeat("\xff", 1<<20), strings.Repeat("\x00", 1<<20), long())
	for _, s := range all {
		key.May(s)
		key.One(s)
		key.Prefix(s)
	}
	for _, a := range ranges(all) {
		key.MayRange(a)
		key.Empty(a)
		for _, s := range all {
			key.In(a, s)
		}
		for _, b := range ranges(all) {
			key.Meet(a, b)
		}
	}
}
