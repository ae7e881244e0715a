package epoch_test

import (
	"math"
	"slices"
	"testing"

	"impost/api"
	"impost/epoch"
)

const top = math.MaxUint64

// made is a pool of so many threads.
func made(t *testing.T, threads int) *epoch.Pool {
	t.Helper()
	p := epoch.New(threads)
	if p == nil {
		t.Fatalf("New(%d) is nil", threads)
	}
	return p
}

// enter lets threads be inside, in turn.
func enter(t *testing.T, p *epoch.Pool, threads ...int) {
	t.Helper()
	for _, n := range threads {
		if err := p.Enter(n); err != api.OK {
			t.Fatalf("Enter(%d): %v", n, err)
		}
	}
}

// exit lets threads not be inside any more, in turn.
func exit(t *testing.T, p *epoch.Pool, threads ...int) {
	t.Helper()
	for _, n := range threads {
		if err := p.Exit(n); err != api.OK {
			t.Fatalf("Exit(%d): %v", n, err)
		}
	}
}

// goesOn looks that the epoch goes on, so many times.
func goesOn(t *testing.T, p *epoch.Pool, times int) {
	t.Helper()
	for range times {
		was := p.Epoch()
		if ok := p.Advance(); !ok || p.Epoch() != was+1 {
			t.Fatalf("Advance at the epoch %d: %v, the epoch %d", was, ok, p.Epoch())
		}
	}
}

// stays looks that the epoch doesn't go on.
func stays(t *testing.T, p *epoch.Pool) {
	t.Helper()
	was := p.Epoch()
	for range 3 {
		if ok := p.Advance(); ok || p.Epoch() != was {
			t.Fatalf("Advance at the epoch %d, with an elder thread: %v, the epoch %d", was, ok, p.Epoch())
		}
	}
}

// retire hands in things, in turn.
func retire(p *epoch.Pool, things ...uint64) {
	for _, x := range things {
		p.Retire(x)
	}
}

// frees looks that what is free now is that, in turn, and that it is retired no more.
func frees(t *testing.T, p *epoch.Pool, want ...uint64) {
	t.Helper()
	left := p.Left()
	if l := p.Free(); !slices.Equal(l, want) {
		t.Fatalf("Free at the epoch %d: %v, not %v", p.Epoch(), l, want)
	}
	has(t, p, p.Epoch(), left-len(want))
}

// has looks at the epoch, and at how much is retired.
func has(t *testing.T, p *epoch.Pool, at, left int) {
	t.Helper()
	if p.Epoch() != at || p.Left() != left {
		t.Fatalf("the epoch %d, %d retired, not %d, %d", p.Epoch(), p.Left(), at, left)
	}
}

// noThreads are numbers that no thread of so many has.
func noThreads(n int) []int {
	return []int{-1, -2, -n, -api.MaxThreads, -(1 << 32), math.MinInt, math.MinInt + n, n, n + 1, 2*n + 7, 1 << 32, math.MaxInt}
}

// numbers are those, and those that threads of so many have.
func numbers(n int) []int {
	l := noThreads(n)
	for i := range n {
		l = append(l, i)
	}
	return l
}

// areNone looks that no threads have these numbers.
func areNone(t *testing.T, p *epoch.Pool, threads []int) {
	t.Helper()
	for _, i := range threads {
		if in, out := p.Enter(i), p.Exit(i); in != api.ErrArg || out != api.ErrArg {
			t.Errorf("Enter(%d): %v, Exit: %v", i, in, out)
		}
	}
}

// P3.1: New.

func TestNewOfTooFewOrTooMany(t *testing.T) {
	for _, n := range []int{0, -1, -2, -8, -(1 << 32) + 1, math.MinInt, math.MinInt + 1, 9, 10, 16, 1<<32 + 1, math.MaxInt} {
		if p := epoch.New(n); p != nil {
			t.Errorf("New(%d) isn't nil", n)
		}
	}
}

func TestNewHasItsThreads(t *testing.T) {
	if api.MaxThreads != 8 {
		t.Fatalf("MaxThreads is %d", api.MaxThreads)
	}
	for n := 1; n <= api.MaxThreads; n++ {
		p := made(t, n)
		has(t, p, 0, 0)
		frees(t, p)
		for i := range n {
			if err := p.Exit(i); err != api.ErrNone {
				t.Errorf("of %d new ones, Exit(%d): %v", n, i, err)
			}
		}
		areNone(t, p, noThreads(n))
		for i := range n {
			enter(t, p, i)
		}
		areNone(t, p, noThreads(n))
		has(t, p, 0, 0)
	}
}

func TestNewOnesShareNothing(t *testing.T) {
	p, q := made(t, 2), made(t, 2)
	enter(t, p, 0)
	retire(p, 5)
	goesOn(t, p, 1)
	has(t, q, 0, 0)
	if err := q.Exit(0); err != api.ErrNone {
		t.Errorf("Exit of a thread that entered another pool: %v", err)
	}
	goesOn(t, q, 3)
	frees(t, q)
	stays(t, p)
	has(t, p, 1, 1)
}

// P3.1: Enter, and Exit.

func TestEnterTwice(t *testing.T) {
	p := made(t, 3)
	enter(t, p, 1)
	for range 3 {
		if err := p.Enter(1); err != api.ErrBusy {
			t.Errorf("Enter of one inside: %v", err)
		}
	}
	exit(t, p, 1)
	if err := p.Exit(1); err != api.ErrNone {
		t.Errorf("entered once, exited twice: %v", err)
	}
}

func TestEnterOfOneInsideLeavesItsEpoch(t *testing.T) {
	p := made(t, 2)
	enter(t, p, 0)
	goesOn(t, p, 1)
	if err := p.Enter(0); err != api.ErrBusy {
		t.Errorf("Enter of one inside, of an elder epoch: %v", err)
	}
	stays(t, p)
}

func TestExitOfOneThatIsNotInside(t *testing.T) {
	p := made(t, 2)
	enter(t, p, 0)
	goesOn(t, p, 1)
	for range 3 {
		if err := p.Exit(1); err != api.ErrNone {
			t.Errorf("Exit of one that isn't inside: %v", err)
		}
	}
	stays(t, p)
	enter(t, p, 1)
	exit(t, p, 1, 0)
	for i := range 2 {
		if err := p.Exit(i); err != api.ErrNone {
			t.Errorf("Exit(%d) again: %v", i, err)
		}
	}
	has(t, p, 1, 0)
}

func TestEnterAgainIsOfTheEpochThatThereIs(t *testing.T) {
	p := made(t, 1)
	for range 5 {
		enter(t, p, 0)
		goesOn(t, p, 1)
		stays(t, p)
		exit(t, p, 0)
		goesOn(t, p, 2)
	}
	has(t, p, 15, 0)
}

func TestThreadsEachOnTheirOwn(t *testing.T) {
	for i := range api.MaxThreads {
		p := made(t, api.MaxThreads)
		enter(t, p, i)
		for j := range api.MaxThreads {
			want := api.ErrNone
			if j == i {
				want = api.OK
			}
			if err := p.Exit(j); err != want {
				t.Errorf("%d entered, Exit(%d): %v", i, j, err)
			}
		}
		for j := range api.MaxThreads {
			enter(t, p, j)
		}
		exit(t, p, i)
		for j := range api.MaxThreads {
			want := api.ErrBusy
			if j == i {
				want = api.OK
			}
			if err := p.Enter(j); err != want {
				t.Errorf("all but %d inside, Enter(%d): %v", i, j, err)
			}
		}
	}
}

func TestNoThreadChangesNothing(t *testing.T) {
	p := made(t, 2)
	enter(t, p, 0)
	retire(p, 7)
	goesOn(t, p, 1)
	areNone(t, p, noThreads(2))
	has(t, p, 1, 1)
	stays(t, p)
	exit(t, p, 0)
	for _, i := range noThreads(2) {
		p.Enter(i)
	}
	goesOn(t, p, 1)
	frees(t, p, 7)
}

// P3.2: Advance, and Epoch.

func TestAdvanceWithNobodyInside(t *testing.T) {
	for n := 1; n <= api.MaxThreads; n++ {
		p := made(t, n)
		goesOn(t, p, 100)
		has(t, p, 100, 0)
	}
}

func TestAdvanceWithAllOfTheEpoch(t *testing.T) {
	p := made(t, 3)
	goesOn(t, p, 4)
	enter(t, p, 0, 1, 2)
	goesOn(t, p, 1)
	stays(t, p)
	exit(t, p, 0, 1, 2)
	enter(t, p, 2, 0)
	goesOn(t, p, 1)
	stays(t, p)
	has(t, p, 6, 0)
}

// One elder holds the epoch up, whichever it is, and whoever else is inside.
func TestAdvanceWithOneElder(t *testing.T) {
	for elder := range api.MaxThreads {
		p := made(t, api.MaxThreads)
		enter(t, p, elder)
		goesOn(t, p, 1)
		stays(t, p)
		for i := range api.MaxThreads {
			if i != elder {
				enter(t, p, i)
				stays(t, p)
			}
		}
		exit(t, p, elder)
		goesOn(t, p, 1)
		stays(t, p)
	}
}

func TestAdvanceWithEldersOneByOne(t *testing.T) {
	p := made(t, 4)
	enter(t, p, 0, 1, 2, 3)
	goesOn(t, p, 1)
	for _, i := range []int{2, 0, 3} {
		exit(t, p, i)
		stays(t, p)
	}
	enter(t, p, 0)
	stays(t, p)
	exit(t, p, 1)
	goesOn(t, p, 1)
	stays(t, p)
	exit(t, p, 0)
	goesOn(t, p, 10)
}

func TestEpochAndLeftChangeNothing(t *testing.T) {
	p := made(t, 1)
	retire(p, 3, 4)
	goesOn(t, p, 1)
	for range 10 {
		has(t, p, 1, 2)
	}
	goesOn(t, p, 1)
	for range 10 {
		has(t, p, 2, 2)
	}
	frees(t, p, 3, 4)
	has(t, p, 2, 0)
}

// P3.2: Retire, Free, and Left.

func TestFreeTwoEpochsBelow(t *testing.T) {
	for begin := range 4 {
		for steps := range 6 {
			p := made(t, 2)
			goesOn(t, p, begin)
			retire(p, 9)
			has(t, p, begin, 1)
			goesOn(t, p, steps)
			if steps < 2 {
				frees(t, p)
				has(t, p, begin+steps, 1)
				continue
			}
			frees(t, p, 9)
			has(t, p, begin+steps, 0)
		}
	}
}

func TestFreeEachEpochAtItsTime(t *testing.T) {
	p := made(t, 1)
	retire(p, 10, 11)
	goesOn(t, p, 1)
	retire(p, 20)
	frees(t, p)
	goesOn(t, p, 1)
	retire(p, 30, 31, 32)
	frees(t, p, 10, 11)
	goesOn(t, p, 1)
	frees(t, p, 20)
	goesOn(t, p, 1)
	frees(t, p, 30, 31, 32)
	has(t, p, 4, 0)
}

func TestFreeLeavesWhatIsNotFree(t *testing.T) {
	p := made(t, 1)
	for e := range 6 {
		retire(p, uint64(e), uint64(e)+100)
		goesOn(t, p, 1)
	}
	has(t, p, 6, 12)
	frees(t, p, 0, 100, 1, 101, 2, 102, 3, 103, 4, 104)
	has(t, p, 6, 2)
	goesOn(t, p, 1)
	frees(t, p, 5, 105)
}

// Many epochs are told in turn, whatever order a map is ranged over in; what is handed in is in no order.
func TestFreeInTurn(t *testing.T) {
	for range 20 {
		p := made(t, 3)
		want := []uint64{}
		for e := range 60 {
			for i := range e % 4 {
				x := uint64((e*37+i*11)%64) << (e % 50)
				retire(p, x)
				want = append(want, x)
			}
			goesOn(t, p, 1)
		}
		goesOn(t, p, 1)
		has(t, p, 61, len(want))
		frees(t, p, want...)
		has(t, p, 61, 0)
	}
}

func TestFreeTwice(t *testing.T) {
	p := made(t, 1)
	retire(p, 1, 2, 3)
	goesOn(t, p, 2)
	frees(t, p, 1, 2, 3)
	frees(t, p)
	goesOn(t, p, 5)
	frees(t, p)
	has(t, p, 7, 0)
	retire(p, 4)
	frees(t, p)
	goesOn(t, p, 2)
	frees(t, p, 4)
	frees(t, p)
}

func TestFreeOfNothing(t *testing.T) {
	p := made(t, 1)
	for e := range 5 {
		frees(t, p)
		has(t, p, e, 0)
		goesOn(t, p, 1)
	}
}

func TestRetiredTwice(t *testing.T) {
	p := made(t, 1)
	retire(p, 5, 6, 5)
	has(t, p, 0, 3)
	goesOn(t, p, 1)
	retire(p, 5)
	has(t, p, 1, 4)
	goesOn(t, p, 1)
	frees(t, p, 5, 6, 5)
	retire(p, 5, 5)
	goesOn(t, p, 2)
	frees(t, p, 5, 5, 5)
	has(t, p, 4, 0)
}

func TestRetireAnyNumber(t *testing.T) {
	p := made(t, 1)
	all := []uint64{top, 0, 1, 1 << 63, top - 1, 0, 1 << 32, math.MaxInt64, math.MaxUint32, top}
	retire(p, all...)
	has(t, p, 0, len(all))
	goesOn(t, p, 2)
	frees(t, p, all...)
}

func TestRetireMany(t *testing.T) {
	p := made(t, 1)
	enter(t, p, 0)
	want := []uint64{}
	for i := range 20000 {
		x := uint64(i) * 0x9e3779b97f4a7c15
		retire(p, x)
		want = append(want, x)
	}
	has(t, p, 0, len(want))
	exit(t, p, 0)
	goesOn(t, p, 2)
	frees(t, p, want...)
}

// Advance and Free are calls of their own: neither does what the other does.
func TestAdvanceFreesNothing(t *testing.T) {
	p := made(t, 1)
	retire(p, 8)
	goesOn(t, p, 50)
	has(t, p, 50, 1)
	frees(t, p, 8)
	has(t, p, 50, 0)
}

// What is told is the caller's own, R3: nothing that comes behind changes it, and it changes nothing.
func TestFreeTellsWhatIsTheCallers(t *testing.T) {
	p := made(t, 1)
	retire(p, 1, 2, 3)
	goesOn(t, p, 1)
	retire(p, 4, 5)
	goesOn(t, p, 1)
	l := p.Free()
	kept := slices.Clone(l)
	retire(p, 6, 7, 8)
	goesOn(t, p, 1)
	m := p.Free()
	goesOn(t, p, 1)
	q := p.Free()
	if !slices.Equal(l, kept) || !slices.Equal(m, []uint64{4, 5}) || !slices.Equal(q, []uint64{6, 7, 8}) {
		t.Fatalf("told %v, then %v, then %v, of which the first was %v", l, m, q, kept)
	}
	for _, all := range [][]uint64{l, m, q} {
		all = all[:cap(all)]
		for i := range all {
			all[i] = 99
		}
	}
	has(t, p, 4, 0)
	retire(p, 1)
	goesOn(t, p, 2)
	frees(t, p, 1)
}

// What is told is written over, with all that stands behind it, while more is retired.
func TestFreeSharesNothingWithWhatIsRetired(t *testing.T) {
	p := made(t, 1)
	for e := range uint64(30) {
		retire(p, e*3, e*3+1, e*3+2)
		goesOn(t, p, 1)
		l := p.Free()
		want := []uint64(nil)
		if e > 0 {
			want = []uint64{e*3 - 3, e*3 - 2, e*3 - 1}
		}
		if !slices.Equal(l, want) {
			t.Fatalf("at the epoch %d: %v, not %v", e+1, l, want)
		}
		l = l[:cap(l)]
		for i := range l {
			l[i] = top
		}
	}
}

// P3.2: a Pool that is nil.

func TestNilPool(t *testing.T) {
	var p *epoch.Pool
	areNone(t, p, numbers(3))
	for _, x := range []uint64{0, 1, top} {
		p.Retire(x)
	}
	for range 3 {
		if p.Advance() {
			t.Errorf("nil goes on")
		}
	}
	if l := p.Free(); len(l) != 0 {
		t.Errorf("of nil is free %v", l)
	}
	if p.Epoch() != 0 || p.Left() != 0 {
		t.Errorf("nil has the epoch %d, %d retired", p.Epoch(), p.Left())
	}
}

// P3.3: what follows.

// The chapter's example.
func TestEnteredRetiredAdvancedTwice(t *testing.T) {
	p := made(t, 1)
	enter(t, p, 0)
	retire(p, 42)
	goesOn(t, p, 1)
	stays(t, p)
	frees(t, p)
	has(t, p, 1, 1)
	exit(t, p, 0)
	frees(t, p)
	goesOn(t, p, 1)
	frees(t, p, 42)
}

func TestNotFreeWhileAThreadStaysInside(t *testing.T) {
	p := made(t, 2)
	goesOn(t, p, 7)
	enter(t, p, 0)
	retire(p, 1)
	goesOn(t, p, 1)
	retire(p, 2)
	for i := range uint64(40) {
		enter(t, p, 1)
		retire(p, 3+i)
		stays(t, p)
		frees(t, p)
		exit(t, p, 1)
		stays(t, p)
		frees(t, p)
	}
	has(t, p, 8, 42)
	exit(t, p, 0)
	goesOn(t, p, 1)
	frees(t, p, 1)
	goesOn(t, p, 1)
	if l := p.Free(); len(l) != 41 || l[0] != 2 || l[40] != 42 {
		t.Errorf("behind two more steps: %v", l)
	}
}

// What was retired ahead of a thread's entering doesn't wait for it.
func TestFreeOfWhatWasRetiredAheadOfEntering(t *testing.T) {
	p := made(t, 1)
	retire(p, 1)
	goesOn(t, p, 1)
	enter(t, p, 0)
	retire(p, 2)
	goesOn(t, p, 1)
	frees(t, p, 1)
	stays(t, p)
	frees(t, p)
	has(t, p, 2, 1)
}

func TestAllFreeBehindTwoStepsWithNobodyInside(t *testing.T) {
	p := made(t, 4)
	enter(t, p, 3, 1)
	retire(p, 1, 2)
	goesOn(t, p, 1)
	enter(t, p, 2)
	retire(p, 3)
	exit(t, p, 1, 2, 3)
	retire(p, 4)
	goesOn(t, p, 2)
	frees(t, p, 1, 2, 3, 4)
	has(t, p, 3, 0)
}

// A pool against one that keeps all in a list, and who was inside at each retiring.

// retired is a thing, the epoch at which it was, and how often each thread had entered, of those that were inside.
type retired struct {
	x      uint64
	epoch  int
	inside map[int]int
}

// like is what a pool is, told in the chapter's words.
type like struct {
	epoch   int
	of      map[int]int // those that are inside, and their epochs
	entered []int       // how often each thread entered
	list    []retired
}

func newLike(threads int) *like {
	return &like{of: map[int]int{}, entered: make([]int, threads)}
}

func (k *like) enter(i int) api.Errno {
	if i < 0 || i >= len(k.entered) {
		return api.ErrArg
	}
	if _, in := k.of[i]; in {
		return api.ErrBusy
	}
	k.of[i] = k.epoch
	k.entered[i]++
	return api.OK
}

func (k *like) exit(i int) api.Errno {
	if i < 0 || i >= len(k.entered) {
		return api.ErrArg
	}
	if _, in := k.of[i]; !in {
		return api.ErrNone
	}
	delete(k.of, i)
	return api.OK
}

func (k *like) retire(x uint64) {
	r := retired{x: x, epoch: k.epoch, inside: map[int]int{}}
	for i := range k.of {
		r.inside[i] = k.entered[i]
	}
	k.list = append(k.list, r)
}

func (k *like) advance() bool {
	for _, e := range k.of {
		if e < k.epoch {
			return false
		}
	}
	k.epoch++
	return true
}

// free is what is free, as is looked: of none of it a thread stays inside that was at its retiring.
func (k *like) free(t *testing.T) []uint64 {
	t.Helper()
	free, left := []uint64{}, []retired{}
	for _, r := range k.list {
		if k.epoch-r.epoch < 2 {
			left = append(left, r)
			continue
		}
		free = append(free, r.x)
		for i, n := range r.inside {
			if _, in := k.of[i]; in && k.entered[i] == n {
				t.Fatalf("%d is free, but the thread %d is inside still", r.x, i)
			}
		}
	}
	k.list = left
	return free
}

// step lets a pool and its like do one thing of seven, and looks that they tell the same.
func step(t *testing.T, p *epoch.Pool, k *like, what, arg int, x uint64) {
	t.Helper()
	switch what {
	case 0, 1:
		if got, want := p.Enter(arg), k.enter(arg); got != want {
			t.Fatalf("Enter(%d): %v, not %v", arg, got, want)
		}
	case 2, 3:
		if got, want := p.Exit(arg), k.exit(arg); got != want {
			t.Fatalf("Exit(%d): %v, not %v", arg, got, want)
		}
	case 4:
		p.Retire(x)
		k.retire(x)
	case 5:
		if got, want := p.Advance(), k.advance(); got != want {
			t.Fatalf("Advance: %v, not %v", got, want)
		}
	default:
		if got, want := p.Free(), k.free(t); !slices.Equal(got, want) {
			t.Fatalf("Free: %v, not %v", got, want)
		}
	}
	has(t, p, k.epoch, len(k.list))
}

// All that two threads can do in six calls, one behind the other.
func TestLikeAListInEveryWay(t *testing.T) {
	const ways, calls = 7, 6
	all := 1
	for range calls {
		all *= ways
	}
	for n := range all {
		p, k := made(t, 2), newLike(2)
		for left, i := n, 0; i < calls; left, i = left/ways, i+1 {
			step(t, p, k, left%ways, left%ways%2, uint64(i))
		}
		step(t, p, k, 6, 0, 0)
		if t.Failed() {
			t.Fatalf("in the way %d", n)
		}
	}
}

func TestLikeAListAtLength(t *testing.T) {
	seed := uint64(12345)
	next := func(n int) int {
		seed = seed*6364136223846793005 + 1442695040888963407
		return int(seed >> 33 % uint64(n))
	}
	for threads := 1; threads <= api.MaxThreads; threads++ {
		p, k := made(t, threads), newLike(threads)
		for i := range 6000 {
			what := next(7)
			if what < 2 && next(3) > 0 {
				what = 5
			}
			step(t, p, k, what, next(threads+2)-1, uint64(i)<<next(40))
		}
		if p.Epoch() < 100 {
			t.Errorf("with %d threads the epoch is %d only: too little is tried", threads, p.Epoch())
		}
		nobodyInside(t, p, k, threads)
	}
}

// nobodyInside lets all threads exit, and looks that behind two steps all is free.
func nobodyInside(t *testing.T, p *epoch.Pool, k *like, threads int) {
	t.Helper()
	for i := range threads {
		step(t, p, k, 2, i, 0)
	}
	want := []uint64{}
	for _, r := range k.list {
		want = append(want, r.x)
	}
	goesOn(t, p, 2)
	frees(t, p, want...)
	has(t, p, k.epoch+2, 0)
}

// P1: every call ends, and none panics.

func TestNoCallPanics(t *testing.T) {
	for n := -2; n <= api.MaxThreads+2; n++ {
		p := epoch.New(n)
		for _, i := range numbers(max(n, 1)) {
			p.Enter(i)
			p.Retire(uint64(i))
			p.Advance()
			p.Free()
			p.Enter(i)
			p.Exit(i)
			p.Advance()
			p.Exit(i)
			p.Free()
			p.Epoch()
			p.Left()
		}
	}
}
