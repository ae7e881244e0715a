package order_test

import (
	"fmt"
	"math"
	"slices"
	"strings"
	"testing"
	"time"

	"impost/order"
)

func ins(k string, ok bool, inv, ret int) order.Call {
	return order.Call{Kind: order.Insert, Key: k, Ok: ok, Inv: inv, Ret: ret}
}

func del(k string, ok bool, inv, ret int) order.Call {
	return order.Call{Kind: order.Delete, Key: k, Ok: ok, Inv: inv, Ret: ret}
}

func find(k string, ok bool, inv, ret int) order.Call {
	return order.Call{Kind: order.Find, Key: k, Ok: ok, Inv: inv, Ret: ret}
}

func calls(l ...order.Call) []order.Call { return l }

func keys(l ...string) []string { return l }

// put and drop are calls that began at a time and weren't answered.
func put(k string, inv int) order.Call { return ins(k, false, inv, -1) }

func drop(k string, inv int) order.Call { return del(k, false, inv, -1) }

// many is so many calls that are the same.
func many(n int, c order.Call) []order.Call {
	return slices.Repeat([]order.Call{c}, n)
}

// kinds are all kinds of calls, and such as are none of the three.
func kinds() []int {
	return []int{order.Insert, order.Delete, order.Find, 0, 4, 5, 6, -1, -2, -3, 1<<32 + 1, 1<<32 + 2, math.MinInt, math.MaxInt}
}

// long is a text that is far longer than any key may be.
func long() string { return strings.Repeat("k", 1<<16) }

// numbers are those at and beside 0, and at both ends of what an int has.
func numbers() []int {
	return []int{math.MinInt, math.MinInt + 1, -1 << 40, -3, -2, -1, 0, 1, 2, 3, 1 << 40, math.MaxInt - 1, math.MaxInt}
}

// brief is how something is told in a failure, cut where it is long.
func brief(x any) string {
	s := fmt.Sprintf("%+q", fmt.Sprintf("%+v", x))
	return s[:min(len(s), 900)]
}

// tells is what a call tells, done to a set, which it changes, in the chapter's words.
func tells(set map[string]int, c order.Call) bool {
	_, there := set[c.Key]
	if c.Kind == 1 {
		set[c.Key] = 1
		return !there
	}
	if c.Kind == 2 {
		delete(set, c.Key)
	}
	return there
}

// setOf is a set that has some keys.
func setOf(first []string) map[string]int {
	set := map[string]int{}
	for _, k := range first {
		set[k] = 1
	}
	return set
}

// stands tells whether calls can be done just in a turn.
func stands(first []string, turn []order.Call) bool {
	for i, c := range turn {
		for _, behind := range turn[i+1:] {
			if behind.Ret >= 0 && behind.Ret < c.Inv {
				return false
			}
		}
	}
	set := setOf(first)
	for _, c := range turn {
		if ok := tells(set, c); c.Ret >= 0 && ok != c.Ok {
			return false
		}
	}
	return true
}

// turns tells whether one of the turns holds in which calls can stand behind the first so many of them, which stay where they are.
func turns(l []order.Call, fixed int, holds func([]order.Call) bool) bool {
	if fixed == len(l) {
		return holds(l)
	}
	for i := fixed; i < len(l); i++ {
		l[fixed], l[i] = l[i], l[fixed]
		held := turns(l, fixed+1, holds)
		l[fixed], l[i] = l[i], l[fixed]
		if held {
			return true
		}
	}
	return false
}

// plain is what the chapter says, found by going through all that may be left out, and through all orders of what is left.
func plain(first []string, l []order.Call) bool {
	if len(l) > 12 {
		return false
	}
	var must, others []order.Call
	for _, c := range l {
		if c.Ret >= 0 && c.Ret < c.Inv {
			return false
		}
		if c.Ret >= 0 {
			must = append(must, c)
		} else {
			others = append(others, c)
		}
	}
	for some := range 1 << len(others) {
		done := slices.Clone(must)
		for i, c := range others {
			if some&(1<<i) != 0 {
				done = append(done, c)
			}
		}
		if turns(done, 0, func(turn []order.Call) bool { return stands(first, turn) }) {
			return true
		}
	}
	return false
}

// fits looks that calls fit, or don't, as it is said, in several turns in which they may be listed.
func fits(t *testing.T, name string, first []string, l []order.Call, want bool) {
	t.Helper()
	l = slices.Clone(l)
	for i := range min(5, len(l)+1) {
		if i > 0 {
			l = append(l[1:], l[0])
		}
		for range 2 {
			slices.Reverse(l)
			if got := order.Fits(first, l); got != want {
				t.Fatalf("%s: Fits(%s, %s): %v", name, brief(first), brief(l), got)
			}
		}
	}
}

// asPlain looks that calls fit just if the plain search says so.
func asPlain(t *testing.T, name string, first []string, l []order.Call) bool {
	t.Helper()
	got, want := order.Fits(first, l), plain(first, l)
	if got != want {
		t.Fatalf("%s: Fits(%s, %s): %v, not %v", name, brief(first), brief(l), got, want)
	}
	return got
}

// soon fails if something takes a time that no test can wait for.
func soon(t *testing.T, f func()) {
	t.Helper()
	done := make(chan int)
	go func() {
		defer close(done)
		f()
	}()
	select {
	case <-done:
	case <-time.After(time.Minute):
		t.Fatal("not answered in a minute")
	}
}

// P14.1: Ahead.

func TestAhead(t *testing.T) {
	cases := []struct {
		name     string
		ret, inv int
		want     bool
	}{
		{"just below", 4, 5, true},
		{"at", 5, 5, false},
		{"just above", 6, 5, false},
		{"far below", 0, 1 << 40, true},
		{"far above", 1 << 40, 0, false},
		{"a Ret of 0, an Inv of 1", 0, 1, true},
		{"a Ret of 0, an Inv of 0", 0, 0, false},
		{"a Ret of 0, an Inv below 0", 0, -1, false},
		{"not answered", -1, 5, false},
		{"not answered, an Inv of 0", -1, 0, false},
		{"not answered, with another number", -2, 5, false},
		{"not answered, at an Inv below 0", -2, -2, false},
		{"not answered, below an Inv below 0", -3, -2, false},
		{"not answered, with the least number", math.MinInt, 5, false},
		{"not answered, the greatest Inv", -1, math.MaxInt, false},
		{"the ends", 0, math.MaxInt, true},
		{"the ends, just below", math.MaxInt - 1, math.MaxInt, true},
		{"the ends, at", math.MaxInt, math.MaxInt, false},
		{"the ends, the least Inv", math.MaxInt, math.MinInt, false},
		{"the ends, both the least", math.MinInt, math.MinInt, false},
		{"the ends, the other way round", math.MinInt, math.MaxInt, false},
	}
	for _, c := range cases {
		for _, a := range calls(ins("a", true, 0, c.ret), del("b", false, 9, c.ret), find("", true, math.MaxInt, c.ret), find("a", true, math.MinInt, c.ret)) {
			for _, b := range calls(ins("a", false, c.inv, 9), del("a", true, c.inv, -1), find("b", true, c.inv, 0), find("", true, c.inv, math.MaxInt)) {
				if got := order.Ahead(a, b); got != c.want {
					t.Errorf("%s: Ahead(%+v, %+v): %v", c.name, a, b, got)
				}
			}
		}
	}
}

func TestAheadInEveryWay(t *testing.T) {
	for _, ret := range numbers() {
		for _, inv := range numbers() {
			for _, other := range numbers() {
				for i, k := range kinds() {
					a := order.Call{Kind: k, Key: "a", Ok: i%2 == 0, Inv: other, Ret: ret}
					b := order.Call{Kind: kinds()[len(kinds())-1-i], Key: "b", Ok: i%3 == 0, Inv: inv, Ret: other}
					if got, want := order.Ahead(a, b), ret >= 0 && ret < inv; got != want {
						t.Errorf("Ahead(%+v, %+v): %v", a, b, got)
					}
				}
			}
		}
	}
}

func TestAheadOfItself(t *testing.T) {
	for _, inv := range numbers() {
		for _, ret := range numbers() {
			c := ins("a", true, inv, ret)
			if got, want := order.Ahead(c, c), ret >= 0 && ret < inv; got != want {
				t.Errorf("Ahead(%+v) of itself: %v", c, got)
			}
		}
	}
}

// P14.1: Fits.

func TestFitsNoCalls(t *testing.T) {
	for _, first := range [][]string{nil, {}, keys("a"), keys("a", "a", ""), keys(long())} {
		for _, l := range [][]order.Call{nil, {}} {
			if !order.Fits(first, l) {
				t.Errorf("no calls don't fit to %s", brief(first))
			}
		}
	}
}

// One call fits if it tells what there is.
func TestFitsOne(t *testing.T) {
	for _, kind := range kinds() {
		for _, key := range keys("a", "", "n", "\xff", long()) {
			for _, first := range [][]string{nil, keys("b"), keys("a"), keys("b", "", "a"), keys(key), keys("a", "b", key)} {
				there := slices.Contains(first, key)
				for _, ok := range []bool{false, true} {
					want := ok == there
					if kind == 1 {
						want = ok != there
					}
					for _, at := range [][2]int{{0, 0}, {0, 1}, {3, 3}, {-5, 0}, {math.MinInt, math.MaxInt}, {math.MaxInt, math.MaxInt}} {
						c := order.Call{Kind: kind, Key: key, Ok: ok, Inv: at[0], Ret: at[1]}
						fits(t, "one call", first, calls(c), want)
					}
					for _, ret := range []int{-1, -2, math.MinInt} {
						c := order.Call{Kind: kind, Key: key, Ok: ok, Inv: 3, Ret: ret}
						fits(t, "one that wasn't answered", first, calls(c), true)
					}
				}
			}
		}
	}
}

func TestFitsOneBehindTheOther(t *testing.T) {
	cases := []struct {
		name  string
		first []string
		l     []order.Call
		want  bool
	}{
		{"inserted twice, both Ok", nil, calls(ins("a", true, 0, 1), ins("a", true, 2, 3)), false},
		{"inserted twice, the first one Ok", nil, calls(ins("a", true, 0, 1), ins("a", false, 2, 3)), true},
		{"inserted twice, the second one Ok", nil, calls(ins("a", false, 0, 1), ins("a", true, 2, 3)), false},
		{"inserted twice, none Ok", nil, calls(ins("a", false, 0, 1), ins("a", false, 2, 3)), false},
		{"inserted twice, none Ok, where it is there", keys("a"), calls(ins("a", false, 0, 1), ins("a", false, 2, 3)), true},
		{"inserted, deleted, inserted", nil, calls(ins("a", true, 0, 1), del("a", true, 2, 3), ins("a", true, 4, 5)), true},
		{"deleted twice, both Ok", keys("a"), calls(del("a", true, 0, 1), del("a", true, 2, 3)), false},
		{"deleted twice, the first one Ok", keys("a"), calls(del("a", true, 0, 1), del("a", false, 2, 3)), true},
		{"deleted twice, the second one Ok", keys("a"), calls(del("a", false, 0, 1), del("a", true, 2, 3)), false},
		{"found, deleted, not found", keys("a"), calls(find("a", true, 0, 1), del("a", true, 2, 3), find("a", false, 4, 5)), true},
		{"found, deleted, found", keys("a"), calls(find("a", true, 0, 1), del("a", true, 2, 3), find("a", true, 4, 5)), false},
		{"not found, inserted, found", nil, calls(find("a", false, 0, 1), ins("a", true, 2, 3), find("a", true, 4, 5)), true},
		{"found ahead of the insertion", nil, calls(find("a", true, 0, 1), ins("a", true, 2, 3)), false},
		{"not found behind the insertion", nil, calls(ins("a", true, 0, 1), find("a", false, 2, 3)), false},
		{"a find changes nothing", nil, calls(find("a", false, 0, 1), find("a", false, 2, 3), ins("a", true, 4, 5), find("a", true, 6, 7), find("a", true, 8, 9)), true},
		{"an insertion that isn't Ok changes nothing", keys("a"), calls(ins("a", false, 0, 1), find("a", true, 2, 3), del("a", true, 4, 5)), true},
		{"a deletion that isn't Ok changes nothing", nil, calls(del("a", false, 0, 1), find("a", false, 2, 3), ins("a", true, 4, 5)), true},
		{"another key than the one that is inserted", nil, calls(ins("a", true, 0, 1), find("b", false, 2, 3), find("a", true, 4, 5)), true},
		{"another key than the one that is deleted", keys("a", "b"), calls(del("a", true, 0, 1), find("b", true, 2, 3), find("a", false, 4, 5)), true},
		{"another key, found", nil, calls(ins("a", true, 0, 1), find("b", true, 2, 3)), false},
		{"the empty key", nil, calls(ins("", true, 0, 1), find("", true, 2, 3), del("", true, 4, 5), find("", false, 6, 7)), true},
		{"the empty key, of which there is another one", keys("a"), calls(find("", true, 0, 1)), false},
		{"a key with a byte 0 behind it", nil, calls(ins("a", true, 0, 1), ins("a\x00", true, 2, 3), find("a", true, 4, 5)), true},
		{"keys that are no text of runes", nil, calls(ins("\xff", true, 0, 1), ins("\xfe", true, 2, 3), del("\xff", true, 4, 5), find("\xfe", true, 6, 7)), true},
		{"a Kind that is none of the three, between", nil, calls(ins("a", true, 0, 1), order.Call{Kind: 4, Key: "a", Ok: true, Inv: 2, Ret: 3}, ins("a", false, 4, 5)), true},
		{"a Kind that is none of the three, not Ok", nil, calls(ins("a", true, 0, 1), order.Call{Kind: -1, Key: "a", Inv: 2, Ret: 3}), false},
	}
	for _, c := range cases {
		fits(t, c.name, c.first, c.l, c.want)
		if got := plain(c.first, c.l); got != c.want {
			t.Errorf("%s: the plain search says %v", c.name, got)
		}
	}
}

func TestExample(t *testing.T) {
	fits(t, "one after the other", nil, calls(ins("a", true, 0, 1), ins("a", true, 2, 3)), false)
	fits(t, "at once by two, one Ok", nil, calls(ins("a", true, 0, 2), ins("a", false, 1, 3)), true)
	fits(t, "at once by two, the other one Ok", nil, calls(ins("a", false, 0, 2), ins("a", true, 1, 3)), true)
	fits(t, "at once by two, both Ok", nil, calls(ins("a", true, 0, 2), ins("a", true, 1, 3)), false)
	fits(t, "at once by two, none Ok", nil, calls(ins("a", false, 0, 2), ins("a", false, 1, 3)), false)
}

func TestFitsAtOnce(t *testing.T) {
	cases := []struct {
		name  string
		first []string
		l     []order.Call
		want  bool
	}{
		{"told ahead of the other one alone", nil, calls(find("a", false, 0, 9), ins("a", true, 0, 9)), true},
		{"told behind the other one alone", nil, calls(find("a", true, 0, 9), ins("a", true, 0, 9)), true},
		{"told behind the deletion alone", keys("a"), calls(find("a", false, 0, 9), del("a", true, 0, 9)), true},
		{"told ahead of the deletion alone", keys("a"), calls(find("a", true, 0, 9), del("a", true, 0, 9)), true},
		{"the first one ended as the second one began", nil, calls(ins("a", true, 0, 5), find("a", false, 5, 9)), true},
		{"the first one ended just below where the second one began", nil, calls(ins("a", true, 0, 4), find("a", false, 5, 9)), false},
		{"the first one ended just above where the second one began", nil, calls(ins("a", true, 0, 6), find("a", false, 5, 9)), true},
		{"each told as the other one was ahead of it", nil, calls(ins("a", false, 0, 9), ins("a", false, 0, 9)), false},
		{"inserted by three, one Ok", nil, calls(ins("a", false, 0, 9), ins("a", false, 1, 8), ins("a", true, 2, 7)), true},
		{"inserted by three, two Ok", nil, calls(ins("a", true, 0, 9), ins("a", false, 1, 8), ins("a", true, 2, 7)), false},
		{"inserted by two, and deleted between", nil, calls(ins("a", true, 0, 9), del("a", true, 1, 8), ins("a", true, 2, 7)), true},
		{"deleted, and not found between insertions", nil, calls(ins("a", true, 0, 9), find("a", false, 3, 4), ins("a", false, 0, 9)), true},
		{"found and not found, one behind the other, while it was inserted", nil, calls(ins("a", true, 0, 9), find("a", false, 2, 3), find("a", true, 5, 6)), true},
		{"found and then not found, while it was inserted", nil, calls(ins("a", true, 0, 9), find("a", true, 2, 3), find("a", false, 5, 6)), false},
		{"found by two, in turns that no order has", nil, calls(ins("a", true, 0, 9), ins("b", true, 0, 9), find("a", true, 1, 2), find("b", false, 3, 4), find("b", true, 1, 2), find("a", true, 3, 4)), false},
		{"two keys, each inserted behind the other one", nil, calls(ins("a", true, 0, 9), ins("b", true, 0, 9), find("a", true, 1, 2), find("b", false, 3, 4), find("b", true, 5, 6)), true},
		{"one over all, others one behind the other", keys("a"), calls(del("a", true, 0, 20), find("a", true, 1, 2), ins("a", false, 3, 4), ins("a", true, 5, 6), find("a", true, 7, 8)), true},
		{"one over all, that can stand nowhere", keys("a"), calls(del("a", false, 0, 20), find("a", true, 1, 2), ins("a", false, 3, 4)), false},
	}
	for _, c := range cases {
		fits(t, c.name, c.first, c.l, c.want)
		if got := plain(c.first, c.l); got != c.want {
			t.Errorf("%s: the plain search says %v", c.name, got)
		}
	}
}

func TestFitsOfWhatStandsInFirst(t *testing.T) {
	for _, first := range [][]string{keys("a"), keys("a", "a"), keys("a", "b", "a", "", "a"), append(slices.Repeat(keys("x"), 70000), "a")} {
		fits(t, "there at first", first, calls(del("a", true, 0, 1), find("a", false, 2, 3)), true)
		fits(t, "there at first, deleted twice", first, calls(del("a", true, 0, 1), del("a", true, 2, 3)), false)
		fits(t, "there at first, deleted twice at once", first, calls(del("a", true, 0, 5), del("a", true, 0, 5)), false)
		fits(t, "there at first, inserted", first, calls(ins("a", true, 0, 1)), false)
		fits(t, "there at first, of another key", first, calls(find("n", false, 0, 1)), true)
	}
	fits(t, "the empty key at first", keys("a", "", ""), calls(del("", true, 0, 1), ins("", true, 2, 3)), true)
	fits(t, "no empty key at first", keys("a"), calls(del("", true, 0, 1)), false)
	fits(t, "long keys", keys(long(), long()+"x"), calls(find(long(), true, 0, 1), find(long()+"x", true, 0, 1), find(long()+"y", false, 0, 1)), true)
	fits(t, "keys' order plays no part", keys("b", "a"), calls(find("a", true, 0, 1), find("b", true, 0, 1)), true)
}

// P14.1: calls that weren't answered.

func TestFitsNotAnswered(t *testing.T) {
	cases := []struct {
		name  string
		first []string
		l     []order.Call
		want  bool
	}{
		{"must have been done", nil, calls(put("a", 0), find("a", true, 1, 2)), true},
		{"must have been done, and may", keys("a"), calls(drop("a", 0), find("a", false, 1, 2)), true},
		{"can't have been done ahead", nil, calls(put("a", 3), find("a", true, 1, 2)), false},
		{"began as the other one ended", nil, calls(put("a", 2), find("a", true, 1, 2)), true},
		{"can't have been done, and needn't", nil, calls(put("a", 0), find("a", false, 1, 2)), true},
		{"may be done behind", nil, calls(put("a", 9), find("a", false, 1, 2)), true},
		{"may be left out", nil, calls(put("a", 0), find("a", false, 1, 2), ins("a", true, 3, 4)), true},
		{"done between", nil, calls(put("a", 0), find("a", false, 1, 2), find("a", true, 3, 4)), true},
		{"done between, and not undone", nil, calls(put("a", 0), find("a", true, 1, 2), find("a", false, 3, 4)), false},
		{"done between, and undone by another one", nil, calls(put("a", 0), drop("a", 0), find("a", true, 1, 2), find("a", false, 3, 4)), true},
		{"undone by one that began too late", nil, calls(put("a", 0), drop("a", 5), find("a", true, 1, 2), find("a", false, 3, 4)), false},
		{"just one of two may have been done", nil, calls(put("a", 0), put("a", 0), find("a", true, 1, 2), del("a", true, 3, 4), find("a", false, 5, 6)), true},
		{"both must have been done", nil, calls(put("a", 0), put("a", 0), del("a", true, 1, 2), del("a", true, 3, 4)), true},
		{"one alone isn't done twice", nil, calls(put("a", 0), del("a", true, 1, 2), del("a", true, 3, 4)), false},
		{"one of another key doesn't help", nil, calls(put("b", 0), find("a", true, 1, 2)), false},
		{"a find doesn't help", nil, calls(find("a", true, 0, -1), find("a", true, 1, 2)), false},
		{"a Kind that is none doesn't help", nil, calls(order.Call{Kind: 4, Key: "a", Ok: true, Inv: 0, Ret: -1}, find("a", true, 1, 2)), false},
		{"a find in the way", nil, calls(find("a", true, 0, -1), find("a", false, 1, 2)), true},
		{"ends nothing: it is ahead of nobody", nil, calls(ins("a", true, 0, -5), find("a", false, 9, 10), find("a", true, 20, 21)), true},
		{"what it told plays no part", nil, calls(ins("a", true, 0, -1), ins("a", true, 1, 2)), true},
		{"what it told plays no part, done behind", nil, calls(ins("a", true, 5, -1), ins("a", true, 1, 2), find("a", true, 8, 9)), true},
		{"some done, some not", nil, calls(put("a", 0), put("b", 0), drop("c", 0), find("a", true, 1, 2), find("b", false, 3, 4), find("c", true, 5, 6)), false},
		{"some done, some not, of what is there", keys("c"), calls(put("a", 0), put("b", 0), drop("c", 0), find("a", true, 1, 2), find("b", false, 3, 4), find("c", true, 5, 6)), true},
		{"none answered", nil, calls(put("a", 0), drop("b", 7), find("c", true, 3, -1)), true},
	}
	for _, c := range cases {
		fits(t, c.name, c.first, c.l, c.want)
		if got := plain(c.first, c.l); got != c.want {
			t.Errorf("%s: the plain search says %v", c.name, got)
		}
	}
}

// Whatever Ret they have below 0, and whatever they told, they are the same.
func TestFitsNotAnsweredIsBelowZero(t *testing.T) {
	for _, ret := range []int{-1, -2, -1 << 40, math.MinInt} {
		for _, ok := range []bool{false, true} {
			fits(t, "done", nil, calls(ins("a", ok, 0, ret), find("a", true, 1, 2)), true)
			fits(t, "left out", nil, calls(ins("a", ok, 0, ret), find("a", false, 1, 2)), true)
			fits(t, "too late", nil, calls(ins("a", ok, 3, ret), find("a", true, 1, 2)), false)
		}
	}
	for _, ok := range []bool{false, true} {
		fits(t, "answered at 0", nil, calls(ins("a", ok, 0, 0), find("a", true, 1, 2)), ok)
		fits(t, "answered at 0, and not found", nil, calls(ins("a", ok, 0, 0), find("a", false, 1, 2)), false)
	}
}

// P14.1: calls that may not be.

func TestFitsMayNotBe(t *testing.T) {
	right := find("n", false, 0, 100)
	for _, kind := range kinds() {
		for _, inv := range numbers() {
			for _, ret := range numbers() {
				c := order.Call{Kind: kind, Key: "a", Ok: kind == 1, Inv: inv, Ret: ret}
				want := ret < 0 || ret >= inv
				fits(t, "alone", nil, calls(c), want)
				fits(t, "beside another key's", nil, calls(right, c), want)
			}
		}
	}
	fits(t, "just below", nil, calls(ins("a", true, 5, 4)), false)
	fits(t, "at", nil, calls(ins("a", true, 5, 5)), true)
	fits(t, "just above", nil, calls(ins("a", true, 5, 6)), true)
	fits(t, "not answered", nil, calls(ins("a", true, 5, -1)), true)
	fits(t, "a Ret of 0", nil, calls(ins("a", true, 1, 0)), false)
	for i := range 12 {
		l := many(12, find("n", false, 0, 1))
		l[i] = find("n", false, 2, 1)
		fits(t, "one of twelve", nil, l, false)
		l[i] = find("n", false, 2, -1)
		fits(t, "one of twelve, that wasn't answered", nil, l, true)
	}
}

// P14.1: how many there are.

func TestFitsHowMany(t *testing.T) {
	for n := range 30 {
		want := n <= 12
		fits(t, "finds at once", nil, many(n, find("a", false, 0, 9)), want)
		fits(t, "none answered", nil, many(n, put("a", 0)), want)
		var l, other []order.Call
		for i := range n {
			l = append(l, find("a", false, 2*i, 2*i+1))
			other = append(other, ins(string([]byte{byte('a' + i)}), true, 0, 9))
		}
		fits(t, "one behind the other", nil, l, want)
		fits(t, "of a key each", nil, other, want)
	}
	for _, n := range []int{100, 1 << 16} {
		if order.Fits(nil, many(n, put("a", 0))) || order.Fits(nil, many(n, find("a", false, 0, 9))) {
			t.Errorf("%d calls fit", n)
		}
	}
}

// P14.1: each one's place among twelve counts.
func TestFitsTwelve(t *testing.T) {
	var behind, wide []order.Call
	for i := range 12 {
		k := string([]byte{byte('a' + i)})
		behind = append(behind, ins(k, true, 2*i, 2*i+1))
		wide = append(wide, ins(k, true, 0, 99))
	}
	soon(t, func() {
		for _, l := range [][]order.Call{behind, wide} {
			fits(t, "twelve", nil, l, true)
			for i := range l {
				twelveBut(t, l, i)
			}
		}
	})
}

// twelveBut looks at calls of a key each, all right, of which one is changed.
func twelveBut(t *testing.T, l []order.Call, i int) {
	t.Helper()
	broken := slices.Clone(l)
	broken[i].Ok = false
	fits(t, "twelve, one told wrong", nil, broken, false)
	fits(t, "twelve, one told wrong, that is there", keys(l[i].Key), broken, true)
	fits(t, "twelve, one that is there", keys(l[i].Key), l, false)
	broken[i].Ret = -1
	fits(t, "twelve, one not answered", keys(l[i].Key), broken, true)
	for j := range l {
		other := slices.Clone(l)
		other[i].Key = l[j].Key
		if got := order.Fits(nil, other); got != (i == j) {
			t.Errorf("twelve, %d and %d of one key: Fits(%s): %v", i, j, brief(other), got)
		}
	}
}

// steps are calls of a key that is there and isn't by turns, each at once with its neighbours, so that they fit in just one order.
func steps(n int) []order.Call {
	var l []order.Call
	for i := range n {
		c := ins("a", true, 2*i, 2*i+3)
		if i%2 == 1 {
			c.Kind = order.Delete
		}
		l = append(l, c)
	}
	return l
}

func TestFitsInJustOneOrder(t *testing.T) {
	for n := 1; n <= 12; n++ {
		l := steps(n)
		fits(t, "in turn", nil, l, true)
		// Where it is there at first, each but the last one of an odd number can have been done ahead of its neighbour.
		fits(t, "in turn, there at first", keys("a"), l, n%2 == 0)
	}
	for n := 1; n <= 6; n++ {
		l := steps(n)
		found := 0
		turns(l, 0, func(turn []order.Call) bool {
			if stands(nil, turn) {
				found++
			}
			return false
		})
		if found != 1 {
			t.Errorf("%d calls fit in %d orders", n, found)
		}
		for i := range n {
			broken := slices.Clone(l)
			broken[i].Ok = false
			asPlain(t, "one told wrong", nil, broken)
			asPlain(t, "one left out", nil, slices.Delete(slices.Clone(l), i, i+1))
		}
	}
}

// P14.1: in a time in which tests can wait.

func TestFitsSoonOfOneKey(t *testing.T) {
	cases := []struct {
		name  string
		first []string
		l     []order.Call
		want  bool
	}{
		{"inserted and deleted", nil, slices.Concat(many(6, ins("a", true, 0, 9)), many(6, del("a", true, 0, 9))), true},
		{"inserted once too often", nil, slices.Concat(many(7, ins("a", true, 0, 9)), many(5, del("a", true, 0, 9))), false},
		{"inserted, and not found", keys("a"), slices.Concat(many(11, ins("a", false, 0, 9)), many(1, find("a", false, 0, 9))), false},
		{"found, and not found", nil, slices.Concat(many(11, find("a", false, 0, 9)), many(1, find("a", true, 0, 9))), false},
		{"not deleted, and found", nil, slices.Concat(many(11, del("a", false, 0, 9)), many(1, find("a", true, 0, 9))), false},
		{"not answered, and found last", nil, slices.Concat(many(5, put("a", 0)), many(5, drop("a", 0)), calls(find("a", true, 0, 9), find("b", true, 0, 9))), false},
		{"not answered, and deleted too often", nil, slices.Concat(many(5, put("a", 0)), many(7, del("a", true, 0, 9))), false},
		{"not answered, and deleted as often", nil, slices.Concat(many(6, put("a", 0)), many(6, del("a", true, 0, 9))), true},
		{"found last", nil, slices.Concat(many(10, find("a", true, 0, 9)), calls(del("a", true, 0, 9), ins("a", true, 0, 9))), true},
		{"of all kinds", nil, slices.Concat(many(3, ins("a", true, 0, 9)), many(3, ins("a", false, 0, 9)), many(3, del("a", true, 0, 9)), many(3, find("a", false, 0, 9))), true},
		{"of all kinds, one too many", nil, slices.Concat(many(4, ins("a", true, 0, 9)), many(3, ins("a", false, 0, 9)), many(2, del("a", true, 0, 9)), many(3, find("a", false, 0, 9))), false},
		{"none right", nil, many(12, find("a", true, 0, 9)), false},
		{"none right, inserted", keys("a"), many(12, ins("a", true, 0, 9)), false},
	}
	soon(t, func() {
		for _, c := range cases {
			fits(t, c.name, c.first, c.l, c.want)
		}
	})
}

func TestFitsSoonOfSeveralKeys(t *testing.T) {
	soon(t, func() {
		for n := 1; n <= 6; n++ {
			var l []order.Call
			for len(l) < 11 {
				k := string([]byte{byte('a' + len(l)%n)})
				c := ins(k, true, 0, 99)
				if len(l)/n%2 == 1 {
					c.Kind = order.Delete
				}
				if len(l)%3 == 0 {
					c.Ret = -1
				}
				l = append(l, c)
			}
			fits(t, "of several keys, none right at last", nil, append(slices.Clone(l), find("z", true, 0, 99)), false)
			fits(t, "of several keys", nil, append(slices.Clone(l), find("z", false, 0, 99)), plain(nil, l))
		}
	})
}

// P14.1, against the plain search.

// universe are calls of each of some kinds, keys and times, with each Ok where they were answered.
func universe(kinds []int, names []string, times [][2]int) []order.Call {
	var l []order.Call
	for _, kind := range kinds {
		for _, k := range names {
			for _, at := range times {
				l = append(l, order.Call{Kind: kind, Key: k, Inv: at[0], Ret: at[1]})
				if at[1] >= 0 {
					l = append(l, order.Call{Kind: kind, Key: k, Ok: true, Inv: at[0], Ret: at[1]})
				}
			}
		}
	}
	return l
}

// every hands on all lists of so many of some calls, in all turns.
func every(n int, of []order.Call, f func([]order.Call)) {
	l := make([]order.Call, n)
	var fill func(i int)
	fill = func(i int) {
		if i == n {
			f(l)
			return
		}
		for _, c := range of {
			l[i] = c
			fill(i + 1)
		}
	}
	fill(0)
}

func TestFitsInEveryWay(t *testing.T) {
	all := []int{order.Insert, order.Delete, order.Find}
	cases := []struct {
		n  int
		of []order.Call
	}{
		{1, universe(append(all, 0, 4), keys("a", ""), [][2]int{{0, 0}, {0, 1}, {1, 0}, {-1, 0}, {2, -1}, {-3, -2}})},
		{2, universe(append(all, 0), keys("a", ""), [][2]int{{0, 0}, {0, 1}, {1, 1}, {1, 2}, {0, 2}, {2, 2}, {1, -1}, {2, -1}, {2, 1}, {-1, 1}, {0, -3}})},
		{3, universe(all, keys("a"), [][2]int{{0, 0}, {0, 1}, {1, 1}, {1, 2}, {2, 2}, {2, -1}, {0, -1}})},
		{3, universe(all, keys("a", "b"), [][2]int{{0, 0}, {0, 1}, {1, 1}, {1, -1}})},
		{4, universe(all, keys("a"), [][2]int{{0, 0}, {0, 1}, {1, 1}, {1, -1}})[:16]},
		{4, universe(all, keys("a", "b"), [][2]int{{0, 1}, {0, -1}})[:12]},
		{5, universe(all, keys("a"), [][2]int{{0, 1}, {0, -1}})},
	}
	for _, c := range cases {
		count := map[bool]int{}
		every(c.n, c.of, func(l []order.Call) {
			for _, first := range [][]string{nil, keys("a")} {
				count[asPlain(t, fmt.Sprintf("%d calls", c.n), first, l)]++
			}
		})
		if count[true] == 0 || count[false] == 0 {
			t.Errorf("of %d calls %d lists fit, and %d don't", c.n, count[true], count[false])
		}
	}
}

// chance are numbers that jump about, the same ones each time.
type chance uint32

func (c *chance) below(n int) int {
	*c = *c*1664525 + 1013904223
	return int(*c>>16) % n
}

// story is a set, and calls that were done to it one by one, each somewhere between its begin and its end; some weren't answered.
func (c *chance) story(n, names, width int) (first []string, l []order.Call) {
	name := func() string { return string([]byte{byte('a' + c.below(names))}) }
	for range c.below(names + 1) {
		first = append(first, name())
	}
	set := setOf(first)
	for i := range n {
		x := order.Call{Kind: 1 + c.below(4), Key: name()}
		x.Inv, x.Ret = 4*i-c.below(width), 4*i+c.below(width)
		switch c.below(9) {
		case 0:
			x.Ok, x.Ret = c.below(2) == 0, -1-c.below(3)
			tells(set, x)
		case 1:
			x.Ok, x.Ret = c.below(2) == 0, -1
		default:
			x.Ok = tells(set, x)
		}
		l = append(l, x)
	}
	for i := range l {
		j := c.below(n)
		l[i], l[j] = l[j], l[i]
	}
	return first, l
}

// What was done one by one fits.
func TestFitsWhatWas(t *testing.T) {
	for seed := range 4 {
		c := chance(seed)
		for range 1000 {
			first, l := c.story(1+c.below(12), 1+c.below(5), 1+c.below(30))
			if !order.Fits(first, l) {
				t.Fatalf("Fits(%s, %s): false", brief(first), brief(l))
			}
		}
	}
}

// What was told otherwise fits just if the plain search says so.
func TestFitsWhatMayHaveBeen(t *testing.T) {
	count := map[bool]int{}
	for seed := range 4 {
		c := chance(seed + 100)
		for range 700 {
			first, l := c.story(2+c.below(5), 1+c.below(3), 1+c.below(20))
			for range 1 + c.below(2) {
				x := &l[c.below(len(l))]
				switch c.below(5) {
				case 0:
					x.Key = string([]byte{byte('a' + c.below(3))})
				case 1:
					x.Kind = 1 + c.below(4)
				case 2:
					x.Inv += c.below(9) - 4
				default:
					x.Ok = !x.Ok
				}
			}
			count[asPlain(t, "a story that is changed", first, l)]++
		}
	}
	if count[true] < 200 || count[false] < 200 {
		t.Errorf("%d stories fit, and %d don't", count[true], count[false])
	}
}

// P14.2.

// byKeys is whether the calls of each key fit.
func byKeys(first []string, l []order.Call) bool {
	for _, c := range l {
		var own []order.Call
		for _, d := range l {
			if d.Key == c.Key {
				own = append(own, d)
			}
		}
		if !order.Fits(first, own) {
			return false
		}
	}
	return true
}

func TestFitsJustIfThoseOfEachKeyDo(t *testing.T) {
	cases := []struct {
		name  string
		first []string
		l     []order.Call
		want  bool
	}{
		{"both fit", keys("b"), calls(ins("a", true, 0, 5), del("b", true, 1, 6), find("a", true, 2, 7), find("b", false, 3, 8)), true},
		{"one doesn't", keys("b"), calls(ins("a", true, 0, 5), del("b", true, 1, 6), find("a", true, 2, 7), ins("b", true, 3, 8), del("b", false, 9, 10)), false},
		{"none does", nil, calls(ins("a", false, 0, 5), del("b", true, 1, 6)), false},
		{"each behind the other key's", nil, calls(ins("a", true, 0, 9), ins("b", true, 0, 9), find("a", false, 1, 2), find("b", true, 3, 4), find("a", true, 5, 6)), true},
		{"twelve of twelve keys", nil, func() []order.Call {
			var l []order.Call
			for i := range 12 {
				l = append(l, ins(string([]byte{byte('a' + i)}), true, i, 30-i))
			}
			return l
		}(), true},
	}
	for _, c := range cases {
		fits(t, c.name, c.first, c.l, c.want)
		if got := byKeys(c.first, c.l); got != c.want {
			t.Errorf("%s: of each key they say %v", c.name, got)
		}
	}
	count := map[bool]int{}
	for seed := range 4 {
		c := chance(seed + 200)
		for range 800 {
			first, l := c.story(2+c.below(11), 2+c.below(4), 1+c.below(30))
			if c.below(4) != 0 {
				x := &l[c.below(len(l))]
				x.Ok = !x.Ok
			}
			got := order.Fits(first, l)
			if want := byKeys(first, l); got != want {
				t.Fatalf("Fits(%s, %s): %v, but of each key %v", brief(first), brief(l), got, want)
			}
			count[got]++
		}
	}
	if count[true] < 200 || count[false] < 200 {
		t.Errorf("%d lists fit, and %d don't", count[true], count[false])
	}
}

// Calls that were one behind the other fit just as they are: if each tells what it tells, done in that turn.
func TestFitsJustAsTheyAre(t *testing.T) {
	count := map[bool]int{}
	for seed := range 4 {
		c := chance(seed + 300)
		for range 800 {
			first, l := c.story(1+c.below(12), 1+c.below(3), 1)
			slices.SortFunc(l, func(a, b order.Call) int { return a.Inv - b.Inv })
			for i := range l {
				l[i].Inv, l[i].Ret = 2*i, 2*i+c.below(2)
			}
			set := setOf(first)
			wrong := 0
			for i := range l {
				if ok := tells(set, l[i]); l[i].Ok != ok && c.below(3) != 0 {
					l[i].Ok = ok
				} else if l[i].Ok != ok {
					wrong++
				}
			}
			if got := order.Fits(first, l); got != (wrong == 0) {
				t.Fatalf("Fits(%s, %s): %v, but %d tell what isn't so", brief(first), brief(l), got, wrong)
			}
			count[wrong == 0]++
		}
	}
	if count[true] < 200 || count[false] < 200 {
		t.Errorf("%d lists fit, and %d don't", count[true], count[false])
	}
}

func TestFitsJustAsTheyAreInEveryWay(t *testing.T) {
	of := universe([]int{order.Insert, order.Delete, order.Find}, keys("a", "b"), [][2]int{{0, 0}})
	every(4, of, func(l []order.Call) {
		turn := slices.Clone(l)
		for i := range turn {
			turn[i].Inv, turn[i].Ret = i, i
		}
		for _, first := range [][]string{nil, keys("b")} {
			if got, want := order.Fits(first, turn), stands(first, turn); got != want {
				t.Fatalf("Fits(%v, %v): %v", first, turn, got)
			}
		}
	})
}

// R2 to R4.

func TestNilAndEmpty(t *testing.T) {
	for _, c := range calls(ins("a", true, 0, 1), ins("", true, 0, 1), find("", false, 0, 1), put("a", 0)) {
		for _, first := range [][]string{nil, {}} {
			fits(t, "nothing there at first", first, calls(c), true)
		}
	}
	fits(t, "a zero call", nil, calls(order.Call{}), true)
	fits(t, "a zero call, of what is there", keys(""), calls(order.Call{}), false)
	if order.Ahead(order.Call{}, order.Call{}) {
		t.Error("a zero call is ahead of itself")
	}
}

// roomy is a list with room behind it, in which the same stands again, so that what is written there would be seen.
func roomy[T any](l []T) []T { return slices.Concat(l, l)[:len(l)] }

func TestWhatIsHandedInStays(t *testing.T) {
	c := chance(400)
	for range 600 {
		first, l := c.story(1+c.below(14), 1+c.below(4), 1+c.below(20))
		if c.below(2) == 0 {
			l[0].Ok = !l[0].Ok
		}
		x, y := roomy(first), roomy(l)
		order.Fits(x, y)
		order.Ahead(y[0], y[len(y)-1])
		if !slices.Equal(x[:cap(x)], roomy(first)[:cap(x)]) || !slices.Equal(y[:cap(y)], roomy(l)[:cap(y)]) {
			t.Fatalf("%v and %v were handed in, behind it: %v, %v", first, l, x[:cap(x)], y[:cap(y)])
		}
	}
}

// Changed afterwards, what was handed in plays no part any more: nothing of it is kept, and it is told anew what is so then.
func TestChangedAfterwards(t *testing.T) {
	first, l := keys("a"), calls(del("a", true, 0, 1), find("a", false, 2, 3))
	steps := []struct {
		change func()
		want   bool
	}{
		{func() {}, true},
		{func() { first[0] = "b" }, false},
		{func() { l[0].Key = "b" }, true},
		{func() { l[1].Key = "b" }, true},
		{func() { l[1].Ok = true }, false},
		{func() { l[1].Inv = 1 }, true},
		{func() { l[0].Ret = 0 }, false},
		{func() { l[0].Ret = -1 }, true},
		{func() { l[0].Kind, l[1].Ok = order.Insert, false }, false},
		{func() { first[0] = "c" }, true},
	}
	for i, s := range steps {
		s.change()
		if got := order.Fits(first, l); got != s.want {
			t.Errorf("changed %d times: Fits(%v, %v): %v", i, first, l, got)
		}
		if got := order.Fits(slices.Clone(first), slices.Clone(l)); got != s.want {
			t.Errorf("changed %d times, copies: Fits(%v, %v): %v", i, first, l, got)
		}
	}
}

func TestAskedAgain(t *testing.T) {
	c := chance(500)
	type asked struct {
		first []string
		l     []order.Call
		got   bool
	}
	var all []asked
	for range 300 {
		first, l := c.story(1+c.below(13), 1+c.below(4), 1+c.below(20))
		if c.below(2) == 0 {
			l[0].Ok = !l[0].Ok
		}
		all = append(all, asked{first, l, order.Fits(first, l)})
	}
	slices.Reverse(all)
	for _, a := range all {
		if got := order.Fits(a.first, a.l); got != a.got {
			t.Errorf("Fits(%s, %s): %v, and again %v", brief(a.first), brief(a.l), a.got, got)
		}
	}
}

// P1: whatever is handed in.
func TestNoCallPanics(t *testing.T) {
	texts := keys("", "a", "\xff\xff\xff\xff\xff\xff\xff\xff", long())
	soon(t, func() {
		for _, k := range texts {
			for _, kind := range kinds() {
				for _, inv := range numbers() {
					for _, ret := range numbers() {
						c := order.Call{Kind: kind, Key: k, Ok: inv%2 == 0, Inv: inv, Ret: ret}
						d := order.Call{Kind: -kind, Key: "a", Ok: ret%2 == 0, Inv: ret, Ret: inv}
						order.Ahead(c, d)
						order.Fits(texts, calls(c, d, c))
						order.Fits(nil, calls(d, d, c, c))
					}
				}
			}
		}
	})
}
