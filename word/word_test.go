package word_test

import (
	"math"
	"math/big"
	"testing"

	"impost/api"
	"impost/word"
)

// A word is a number modulo 2^64; the tests' own words are worked out in numbers without an end.
var wordEnd = new(big.Int).Lsh(big.NewInt(1), 64)

// power is 2^n.
func power(n uint) *big.Int { return new(big.Int).Lsh(big.NewInt(1), n) }

// modulo is a number modulo another one, from 0 on.
func modulo(n, by *big.Int) *big.Int { return new(big.Int).Mod(n, by) }

// unsigned is a number as an uint64: one below 0 stands 2^64 above.
func unsigned(n int) *big.Int { return modulo(big.NewInt(int64(n)), wordEnd) }

// sum is numbers together, modulo 2^64.
func sum(parts ...*big.Int) uint64 {
	all := new(big.Int)
	for _, p := range parts {
		all.Add(all, p)
	}
	return modulo(all, wordEnd).Uint64()
}

// packed is a state and an info as a word, in the chapter's words.
func packed(state, info int) uint64 {
	return sum(
		new(big.Int).Mul(unsigned(info), big.NewInt(4)),
		modulo(unsigned(state), big.NewInt(4)),
	)
}

// headed is a head as a word, in the chapter's words.
func headed(h api.Head) uint64 {
	return sum(
		new(big.Int).Mul(unsigned(h.Seq), power(40)),
		new(big.Int).Mul(modulo(unsigned(h.Rev), power(20)), power(20)),
		modulo(unsigned(h.Hor), power(20)),
	)
}

// may tells whether a head may be, in the chapter's words.
func may(h api.Head) bool {
	return 0 <= h.Seq && h.Seq < 16777216 && !(h.Hor < 0) && !(h.Hor > h.Rev) && h.Rev < 1048576
}

// head is a head of these numbers.
func head(seq, rev, hor int) api.Head { return api.Head{Seq: seq, Rev: rev, Hor: hor} }

// beside are 0, and all numbers at, just below and just above a power of 2, and below 0 as well, down to the lowest and up to the highest.
func beside() []int {
	l := []int{0, math.MinInt, math.MinInt + 1, math.MaxInt, math.MaxInt - 1}
	for n := range 63 {
		for d := -1; d <= 1; d++ {
			at := 1<<n + d
			l = append(l, at, -at)
		}
	}
	return l
}

// few are the numbers that the chapter and its issue name: 0, 1, those below 0, and at and beside where a word's parts end.
func few() []int {
	l := []int{0, 1, 2, 3, 5, -1, -2, -3, -1000, math.MinInt, math.MinInt + 1, math.MaxInt - 1, math.MaxInt}
	for _, n := range []int{20, 24, 40, 44, 60} {
		for d := -1; d <= 1; d++ {
			l = append(l, 1<<n+d, -(1<<n + d))
		}
	}
	return l
}

// words are words that have every bit alone, all bits but one, all bits below one and from one on, with those beside them, and some with bits here and there.
func words() []uint64 {
	l := []uint64{0, math.MaxUint64, 0x0123456789abcdef, 0xfedcba9876543210, 0xaaaaaaaaaaaaaaaa, 0x5555555555555555}
	for n := range 64 {
		at := uint64(1) << n
		l = append(l, at, at-1, at+1, ^at, -at)
	}
	return append(l, mixed(20000)...)
}

// mixed are so many words, the same each time.
func mixed(n int) []uint64 {
	l := make([]uint64, n)
	at := uint64(12)
	for i := range l {
		at = at*6364136223846793005 + 1442695040888963407
		l[i] = at ^ at>>29
	}
	return l
}

// P12.1: the states.

func TestStates(t *testing.T) {
	if word.Clean != 0 || word.Grows != 1 || word.Loses != 2 || word.Goes != 3 {
		t.Errorf("the states: %d, %d, %d, %d", word.Clean, word.Grows, word.Loses, word.Goes)
	}
}

// P12.1: Pack.

func TestPack(t *testing.T) {
	cases := []struct {
		name        string
		state, info int
		want        uint64
	}{
		{"the chapter's example", word.Goes, 5, 23},
		{"all 0", word.Clean, 0, 0},
		{"Grows of 0", word.Grows, 0, 1},
		{"Loses of 0", word.Loses, 0, 2},
		{"Goes of 0", word.Goes, 0, 3},
		{"Clean of 1", word.Clean, 1, 4},
		{"Grows of 1", word.Grows, 1, 5},
		{"Loses of 1", word.Loses, 1, 6},
		{"Goes of 1", word.Goes, 1, 7},
		{"Clean of 5", word.Clean, 5, 20},
		{"a state of 4", 4, 5, 20},
		{"a state of 5", 5, 5, 21},
		{"a state of 7", 7, 5, 23},
		{"a state of 8", 8, 5, 20},
		{"a state of 1001", 1001, 5, 21},
		{"a state of -1", -1, 5, 23},
		{"a state of -2", -2, 5, 22},
		{"a state of -3", -3, 5, 21},
		{"a state of -4", -4, 5, 20},
		{"a state of -5", -5, 5, 23},
		{"the lowest state", math.MinInt, 5, 20},
		{"the lowest state but 1", math.MinInt + 1, 5, 21},
		{"the highest state", math.MaxInt, 5, 23},
		{"the highest state but 1", math.MaxInt - 1, 5, 22},
		{"an info of 2^30", word.Loses, 1 << 30, 1<<32 + 2},
		{"an info above 2^30", word.Loses, 1<<30 + 1, 1<<32 + 6},
		{"an info just below 2^31", word.Grows, 1<<31 - 1, 1<<33 - 3},
		{"an info of 2^31", word.Grows, 1 << 31, 1<<33 + 1},
		{"an info above 2^31", word.Grows, 1<<31 + 1, 1<<33 + 5},
		{"an info just below 2^62", word.Goes, 1<<62 - 1, math.MaxUint64},
		{"an info of 2^62", word.Goes, 1 << 62, 3},
		{"an info above 2^62", word.Goes, 1<<62 + 1, 7},
		{"an info far above 2^62", word.Goes, 1<<62 + 5, 23},
		{"the highest info", word.Goes, math.MaxInt, math.MaxUint64},
		{"the highest info, Clean", word.Clean, math.MaxInt, math.MaxUint64 - 3},
		{"an info of -1", word.Clean, -1, math.MaxUint64 - 3},
		{"an info of -1, Goes", word.Goes, -1, math.MaxUint64},
		{"an info of -2", word.Grows, -2, math.MaxUint64 - 6},
		{"an info of -2^31", word.Grows, -1 << 31, math.MaxUint64 - 1<<33 + 2},
		{"an info of -2^62", word.Loses, -1 << 62, 2},
		{"the lowest info: 2^63 as an uint64", word.Loses, math.MinInt, 2},
		{"above the lowest info", word.Loses, math.MinInt + 1, 6},
		{"both -1", -1, -1, math.MaxUint64},
		{"both the lowest", math.MinInt, math.MinInt, 0},
	}
	for _, c := range cases {
		if got := word.Pack(c.state, c.info); got != c.want {
			t.Errorf("%s: Pack(%d, %d): %d, not %d", c.name, c.state, c.info, got, c.want)
		}
		if want := packed(c.state, c.info); want != c.want {
			t.Fatalf("%s: the test's own word: %d", c.name, want)
		}
	}
}

func TestPackInEveryWay(t *testing.T) {
	l := beside()
	for _, state := range l {
		for _, info := range l {
			if got, want := word.Pack(state, info), packed(state, info); got != want {
				t.Fatalf("Pack(%d, %d): %d, not %d", state, info, got, want)
			}
		}
	}
}

func TestPackOfEachOfMany(t *testing.T) {
	for state := -20; state <= 20; state++ {
		for info := -3000; info <= 3000; info++ {
			if got, want := word.Pack(state, info), packed(state, info); got != want {
				t.Fatalf("Pack(%d, %d): %d, not %d", state, info, got, want)
			}
		}
	}
}

// P12.1: State, Info.

func TestStateAndInfo(t *testing.T) {
	cases := []struct {
		w           uint64
		state, info int
	}{
		{0, word.Clean, 0},
		{1, word.Grows, 0},
		{2, word.Loses, 0},
		{3, word.Goes, 0},
		{4, word.Clean, 1},
		{7, word.Goes, 1},
		{8, word.Clean, 2},
		{23, word.Goes, 5},
		{1<<32 - 1, word.Goes, 1<<30 - 1},
		{1 << 32, word.Clean, 1 << 30},
		{1<<33 + 2, word.Loses, 1 << 31},
		{1<<34 + 1, word.Grows, 1 << 32},
		{1<<63 - 1, word.Goes, 1<<61 - 1},
		{1 << 63, word.Clean, 1 << 61},
		{1<<63 + 1, word.Grows, 1 << 61},
		{math.MaxUint64 - 3, word.Clean, 1<<62 - 1},
		{math.MaxUint64 - 1, word.Loses, 1<<62 - 1},
		{math.MaxUint64, word.Goes, 1<<62 - 1},
	}
	for _, c := range cases {
		if s, i := word.State(c.w), word.Info(c.w); s != c.state || i != c.info {
			t.Errorf("of the word %d: State %d, Info %d; not %d, %d", c.w, s, i, c.state, c.info)
		}
	}
}

func TestStateAndInfoInEveryWay(t *testing.T) {
	four := big.NewInt(4)
	for _, w := range words() {
		info, state := new(big.Int).DivMod(new(big.Int).SetUint64(w), four, new(big.Int))
		if got := word.State(w); int64(got) != state.Int64() {
			t.Fatalf("State(%d): %d, not %d", w, got, state)
		}
		if got := word.Info(w); int64(got) != info.Int64() {
			t.Fatalf("Info(%d): %d, not %d", w, got, info)
		}
	}
}

// Any word's state and info, packed again, are the word.
func TestPackOfAnyWord(t *testing.T) {
	for _, w := range words() {
		if got := word.Pack(word.State(w), word.Info(w)); got != w {
			t.Fatalf("of the word %d: Pack(%d, %d): %d", w, word.State(w), word.Info(w), got)
		}
	}
}

// What of a state and an info a word has room for is told of the word.
func TestPackedThereAndBack(t *testing.T) {
	for _, state := range []int{word.Clean, word.Grows, word.Loses, word.Goes} {
		for _, info := range append(beside(), few()...) {
			w := word.Pack(state, info)
			if word.State(w) != state {
				t.Fatalf("State of Pack(%d, %d): %d", state, info, word.State(w))
			}
			if fits := info >= 0 && info < 1<<62; fits != (word.Info(w) == info) {
				t.Fatalf("Info of Pack(%d, %d): %d", state, info, word.Info(w))
			}
		}
	}
}

// P12.2: Head.

func TestHead(t *testing.T) {
	cases := []struct {
		name string
		h    api.Head
		want uint64
	}{
		{"the zero head", head(0, 0, 0), 0},
		{"Hor 1", head(0, 0, 1), 1},
		{"Rev 1", head(0, 1, 0), 0x100000},
		{"Seq 1", head(1, 0, 0), 0x10000000000},
		{"each 1", head(1, 1, 1), 0x10000100001},
		{"each another one", head(0x1234, 0x56, 0x7), 0x12340005600007},
		{"all bits", head(0xffffff, 0xfffff, 0xfffff), math.MaxUint64},
		{"Hor just below 2^20", head(0, 0, 1<<20-1), 0xfffff},
		{"Hor 2^20", head(0, 0, 1<<20), 0},
		{"Hor just above 2^20", head(0, 0, 1<<20+1), 1},
		{"Hor 2^24", head(0, 0, 1<<24), 0},
		{"Hor just below 2^40", head(0, 0, 1<<40-1), 0xfffff},
		{"Hor 2^40", head(0, 0, 1<<40), 0},
		{"Hor -1", head(0, 0, -1), 0xfffff},
		{"Hor -2^20", head(0, 0, -1<<20), 0},
		{"Hor just above -2^20", head(0, 0, -1<<20+1), 1},
		{"the lowest Hor", head(0, 0, math.MinInt), 0},
		{"the lowest Hor but 1: just above 2^63 as an uint64", head(0, 0, math.MinInt+1), 1},
		{"the highest Hor", head(0, 0, math.MaxInt), 0xfffff},
		{"Rev just below 2^20", head(0, 1<<20-1, 0), 0xfffff00000},
		{"Rev 2^20", head(0, 1<<20, 0), 0},
		{"Rev just above 2^20", head(0, 1<<20+1, 0), 0x100000},
		{"Rev 2^24", head(0, 1<<24, 0), 0},
		{"Rev just below 2^40", head(0, 1<<40-1, 0), 0xfffff00000},
		{"Rev 2^40", head(0, 1<<40, 0), 0},
		{"Rev -1", head(0, -1, 0), 0xfffff00000},
		{"Rev -2", head(0, -2, 0), 0xffffe00000},
		{"the lowest Rev", head(0, math.MinInt, 0), 0},
		{"the lowest Rev but 1", head(0, math.MinInt+1, 0), 0x100000},
		{"the highest Rev", head(0, math.MaxInt, 0), 0xfffff00000},
		{"Seq 2^20", head(1<<20, 0, 0), 1 << 60},
		{"Seq just below 2^24", head(1<<24-1, 0, 0), 0xffffff0000000000},
		{"Seq 2^24", head(1<<24, 0, 0), 0},
		{"Seq just above 2^24", head(1<<24+1, 0, 0), 0x10000000000},
		{"Seq just below 2^40", head(1<<40-1, 0, 0), 0xffffff0000000000},
		{"Seq 2^40", head(1<<40, 0, 0), 0},
		{"Seq just above 2^40", head(1<<40+1, 0, 0), 0x10000000000},
		{"Seq -1", head(-1, 0, 0), 0xffffff0000000000},
		{"Seq -2", head(-2, 0, 0), 0xfffffe0000000000},
		{"the lowest Seq", head(math.MinInt, 0, 0), 0},
		{"the lowest Seq but 1", head(math.MinInt+1, 0, 0), 0x10000000000},
		{"the highest Seq", head(math.MaxInt, 0, 0), 0xffffff0000000000},
		{"each -1", head(-1, -1, -1), math.MaxUint64},
		{"Hor above Rev", head(3, 4, 5), 0x30000400005},
		{"each 2^20", head(1<<20, 1<<20, 1<<20), 1 << 60},
	}
	for _, c := range cases {
		if got := word.Head(c.h); got != c.want {
			t.Errorf("%s: Head(%+v): %x, not %x", c.name, c.h, got, c.want)
		}
		if want := headed(c.h); want != c.want {
			t.Fatalf("%s: the test's own word: %x", c.name, want)
		}
	}
}

func TestHeadInEveryWay(t *testing.T) {
	l := few()
	for _, seq := range l {
		for _, rev := range l {
			for _, hor := range l {
				h := head(seq, rev, hor)
				if got, want := word.Head(h), headed(h); got != want {
					t.Fatalf("Head(%+v): %x, not %x", h, got, want)
				}
			}
		}
	}
}

// Each of a head's numbers by itself, at and beside all powers of 2, with the others as they may be, or not.
func TestHeadOfEachNumber(t *testing.T) {
	for _, n := range beside() {
		for _, o := range []int{0, 1, 1<<20 - 1, -1} {
			for _, h := range []api.Head{head(n, o, o), head(o, n, o), head(o, o, n), head(n, n, o), head(n, n, n)} {
				if got, want := word.Head(h), headed(h); got != want {
					t.Fatalf("Head(%+v): %x, not %x", h, got, want)
				}
			}
		}
	}
}

// P12.2: Open.

func TestOpen(t *testing.T) {
	cases := []struct {
		w    uint64
		want api.Head
	}{
		{0, head(0, 0, 0)},
		{1, head(0, 0, 1)},
		{0xfffff, head(0, 0, 1<<20-1)},
		{0x100000, head(0, 1, 0)},
		{0xfffff00000, head(0, 1<<20-1, 0)},
		{0x10000000000, head(1, 0, 0)},
		{0x10000100001, head(1, 1, 1)},
		{0x12340005600007, head(0x1234, 0x56, 0x7)},
		{0xffffff0000000000, head(1<<24-1, 0, 0)},
		{1 << 63, head(1<<23, 0, 0)},
		{1<<63 - 1, head(1<<23-1, 1<<20-1, 1<<20-1)},
		{0x30000400005, head(3, 4, 5)},
		{math.MaxUint64, head(1<<24-1, 1<<20-1, 1<<20-1)},
	}
	for _, c := range cases {
		if got := word.Open(c.w); got != c.want {
			t.Errorf("Open(%x): %+v, not %+v", c.w, got, c.want)
		}
	}
}

// Any word is that of the head that it is opened as, whose numbers a word has room for: there is just one.
func TestOpenOfAnyWord(t *testing.T) {
	for _, w := range words() {
		h := word.Open(w)
		if h.Seq < 0 || h.Seq >= 1<<24 || h.Rev < 0 || h.Rev >= 1<<20 || h.Hor < 0 || h.Hor >= 1<<20 {
			t.Fatalf("Open(%x): %+v", w, h)
		}
		if headed(h) != w {
			t.Fatalf("Open(%x): %+v, of which the word is %x", w, h, headed(h))
		}
		if got := word.Head(h); got != w {
			t.Fatalf("Head of Open(%x): %x", w, got)
		}
	}
}

// What a word has no room for is gone, as the modulo has it: the head that it is opened as has the same word.
func TestOpenOfAnyHead(t *testing.T) {
	for _, n := range beside() {
		for _, h := range []api.Head{head(n, 7, 5), head(7, n, 5), head(7, 9, n), head(n, n, n)} {
			got := word.Open(word.Head(h))
			want := head(h.Seq&(1<<24-1), h.Rev&(1<<20-1), h.Hor&(1<<20-1))
			if got != want {
				t.Fatalf("Open of the word of %+v: %+v, not %+v", h, got, want)
			}
		}
	}
}

// P12.2: May.

func TestMay(t *testing.T) {
	cases := []struct {
		name string
		h    api.Head
		may  bool
	}{
		{"the zero head", head(0, 0, 0), true},
		{"each 1", head(1, 1, 1), true},
		{"all different", head(9, 7, 5), true},
		{"Seq below Rev", head(1, 7, 5), true},
		{"Seq -1", head(-1, 7, 5), false},
		{"Seq 0", head(0, 7, 5), true},
		{"Seq 1", head(1, 7, 5), true},
		{"Seq 2^20", head(1<<20, 7, 5), true},
		{"Seq just below 2^24", head(1<<24-1, 7, 5), true},
		{"Seq 2^24", head(1<<24, 7, 5), false},
		{"Seq just above 2^24", head(1<<24+1, 7, 5), false},
		{"Seq 2^40", head(1<<40, 7, 5), false},
		{"the lowest Seq", head(math.MinInt, 7, 5), false},
		{"the highest Seq", head(math.MaxInt, 7, 5), false},
		{"Hor -1", head(9, 7, -1), false},
		{"Hor 0", head(9, 7, 0), true},
		{"Hor just below Rev", head(9, 7, 6), true},
		{"Hor at Rev", head(9, 7, 7), true},
		{"Hor just above Rev", head(9, 7, 8), false},
		{"Hor 2^20", head(9, 7, 1<<20), false},
		{"Hor 2^20 above one that may be", head(9, 7, 1<<20+5), false},
		{"the lowest Hor", head(9, 7, math.MinInt), false},
		{"the highest Hor", head(9, 7, math.MaxInt), false},
		{"Rev 0, Hor 0", head(9, 0, 0), true},
		{"Rev 0, Hor 1", head(9, 0, 1), false},
		{"Rev 0, Hor -1", head(9, 0, -1), false},
		{"Rev -1, Hor 0", head(9, -1, 0), false},
		{"Rev and Hor -1", head(9, -1, -1), false},
		{"Rev -1, Hor -2", head(9, -1, -2), false},
		{"Rev just below 2^20", head(9, 1<<20-1, 5), true},
		{"Rev just below 2^20, Hor 0", head(9, 1<<20-1, 0), true},
		{"Rev just below 2^20, and Hor", head(9, 1<<20-1, 1<<20-1), true},
		{"Rev just below 2^20, Hor at 2^20", head(9, 1<<20-1, 1<<20), false},
		{"Rev 2^20", head(9, 1<<20, 5), false},
		{"Rev 2^20, Hor 0", head(9, 1<<20, 0), false},
		{"Rev 2^20, and Hor", head(9, 1<<20, 1<<20), false},
		{"Rev just above 2^20", head(9, 1<<20+1, 0), false},
		{"Rev 2^20 above one that may be", head(9, 1<<20+7, 5), false},
		{"the lowest Rev", head(9, math.MinInt, 0), false},
		{"the lowest Rev and Hor", head(9, math.MinInt, math.MinInt), false},
		{"the highest Rev", head(9, math.MaxInt, 0), false},
		{"the highest Rev and Hor", head(9, math.MaxInt, math.MaxInt), false},
		{"the highest that may be", head(1<<24-1, 1<<20-1, 1<<20-1), true},
		{"each just above that", head(1<<24, 1<<20, 1<<20), false},
		{"each -1", head(-1, -1, -1), false},
	}
	for _, c := range cases {
		if got := word.May(c.h); got != c.may {
			t.Errorf("%s: May(%+v): %v", c.name, c.h, got)
		}
		if want := may(c.h); want != c.may {
			t.Fatalf("%s: the test's own May: %v", c.name, want)
		}
	}
}

func TestMayInEveryWay(t *testing.T) {
	l := few()
	for _, seq := range l {
		for _, rev := range l {
			for _, hor := range l {
				h := head(seq, rev, hor)
				if got, want := word.May(h), may(h); got != want {
					t.Fatalf("May(%+v): %v", h, got)
				}
			}
		}
	}
}

// All heads of small numbers, of which those may be whose Hor isn't above Rev.
func TestMayOfSmallNumbers(t *testing.T) {
	for seq := -2; seq <= 2; seq++ {
		for rev := -10; rev <= 40; rev++ {
			for hor := -10; hor <= 50; hor++ {
				h := head(seq, rev, hor)
				if got, want := word.May(h), may(h); got != want {
					t.Fatalf("May(%+v): %v", h, got)
				}
			}
		}
	}
}

// Of what a word is opened as just Hor may be too high.
func TestMayOfAnyWord(t *testing.T) {
	both := map[bool]int{}
	for _, w := range words() {
		h := word.Open(w)
		if got := word.May(h); got != (h.Hor <= h.Rev) {
			t.Fatalf("May(%+v), of the word %x: %v", h, w, got)
		}
		both[word.May(h)]++
	}
	if both[true] < 100 || both[false] < 100 {
		t.Fatalf("so many words' heads may be, or not: %v", both)
	}
}

// P12.3.

// mayBe are heads that may be: of numbers at and beside powers of 2, and of some between.
func mayBe() []api.Head {
	var l []api.Head
	for _, seq := range []int{0, 1, 2, 3, 1000, 1<<20 - 1, 1 << 20, 1<<20 + 1, 1<<23 - 1, 1 << 23, 1<<24 - 2, 1<<24 - 1} {
		for _, rev := range []int{0, 1, 2, 16, 17, 1000, 1<<19 - 1, 1 << 19, 1<<20 - 2, 1<<20 - 1} {
			for _, hor := range []int{0, 1, 2, 16, rev / 2, rev - 1, rev} {
				if h := head(seq, rev, hor); may(h) {
					l = append(l, h)
				}
			}
		}
	}
	return l
}

// What may be is told there and back.
func TestThereAndBack(t *testing.T) {
	for _, h := range mayBe() {
		if !word.May(h) {
			t.Fatalf("May(%+v): false", h)
		}
		if got := word.Open(word.Head(h)); got != h {
			t.Fatalf("Open of the word of %+v: %+v", h, got)
		}
	}
	for _, w := range words() {
		h := word.Open(w)
		if got := word.Open(word.Head(h)); word.May(h) && got != h {
			t.Fatalf("Open of the word of %+v: %+v", h, got)
		}
	}
}

// For each of the numbers alone: all that there are of Seq would be many, those of Rev and Hor are gone through.
func TestThereAndBackOfEachNumber(t *testing.T) {
	for n := range 1 << 20 {
		for _, h := range []api.Head{head(n, n, n), head(1<<24-1-n, 1<<20-1, n), head(16*n+3, n, 0)} {
			if got := word.Open(word.Head(h)); !word.May(h) || got != h {
				t.Fatalf("of %+v: May %v, told back as %+v", h, word.May(h), got)
			}
		}
	}
}

// No two heads that may be have one word.
func TestWordsOfTheirOwn(t *testing.T) {
	of := map[uint64]api.Head{}
	for _, h := range mayBe() {
		w := word.Head(h)
		if o, ok := of[w]; ok && o != h {
			t.Fatalf("%+v and %+v have the word %x", h, o, w)
		}
		of[w] = h
	}
}

// later tells whether a head is above another one: by Seq, then by Rev, then by Hor.
func later(a, b api.Head) bool {
	switch {
	case a.Seq != b.Seq:
		return a.Seq > b.Seq
	case a.Rev != b.Rev:
		return a.Rev > b.Rev
	}
	return a.Hor > b.Hor
}

// A head of a higher Seq is a higher word, whatever its Rev and Hor are; of one Seq that of a higher Rev is, and of one Rev that of a higher Hor.
func TestLaterIsHigher(t *testing.T) {
	l := mayBe()
	for _, a := range l {
		for _, b := range l {
			if got := word.Head(a) > word.Head(b); got != later(a, b) {
				t.Fatalf("the word of %+v above that of %+v: %v", a, b, got)
			}
		}
	}
}

func TestHigherSeqIsHigher(t *testing.T) {
	const low, high = 0, 1<<20 - 1
	for seq := 0; seq < 1<<24-1; seq += 37 {
		a, b := head(seq, high, high), head(seq+1, low, low)
		if !may(a) || !may(b) || word.Head(a) >= word.Head(b) {
			t.Fatalf("the word of %+v: %x; that of %+v: %x", a, word.Head(a), b, word.Head(b))
		}
	}
}

// P1, R4.

func TestNoCallPanics(t *testing.T) {
	for _, n := range beside() {
		for _, o := range few() {
			word.Pack(n, o)
			word.Pack(o, n)
			for _, h := range []api.Head{head(n, o, o), head(o, n, o), head(o, o, n)} {
				word.Head(h)
				word.May(h)
			}
		}
	}
	for _, w := range words() {
		word.State(w)
		word.Info(w)
		word.Open(w)
	}
}

// told is all that is told of a word, and of what it is opened as.
type told struct {
	state, info  int
	packed, word uint64
	head         api.Head
	may          bool
}

func tell(w uint64) told {
	h := word.Open(w)
	s, i := word.State(w), word.Info(w)
	return told{s, i, word.Pack(s, i), word.Head(h), h, word.May(h)}
}

// Asked again, also when others were asked between, all is told the same.
func TestAskedAgain(t *testing.T) {
	l := words()
	first := make([]told, len(l))
	for i, w := range l {
		first[i] = tell(w)
	}
	for i := len(l) - 1; i >= 0; i-- {
		if got := tell(l[i]); got != first[i] {
			t.Fatalf("of the word %x: %+v, then %+v", l[i], first[i], got)
		}
	}
}
