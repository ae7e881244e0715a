package subidx

import (
	"fmt"
	"testing"

	"impost/api"
)

// However watches come and go, the tree is as low as it is to be, and what it tells of itself is so: else much would be gone through for nothing, or not be found.

// sound looks at a tree's order, heights and hulls, and counts its watches.
func sound(t *testing.T, n *node) int {
	t.Helper()
	if n == nil {
		return 0
	}
	want := n.R
	high, low := 0, 1<<30
	for side, s := range n.sides {
		if s == nil {
			low = 0
			continue
		}
		high, low = max(high, s.height), min(low, s.height)
		if toward(n, s.Sub) != side {
			t.Fatalf("%+v stands on the side %d of %+v", s.Sub, side, n.Sub)
		}
		want.From = min(want.From, s.hull.From)
		if s.hull.To == "" || want.To == "" {
			want.To = ""
		} else {
			want.To = max(want.To, s.hull.To)
		}
	}
	if n.height != high+1 || high-low > 1 {
		t.Fatalf("of the height %d, above sides of the heights %d and %d", n.height, low, high)
	}
	if n.hull != want {
		t.Fatalf("of the hull %q, not %q", n.hull, want)
	}
	return sound(t, n.sides[0]) + 1 + sound(t, n.sides[1])
}

func soundIndex(t *testing.T, x *Index, want int) {
	t.Helper()
	if n := sound(t, x.root); n != want || len(x.nodes) != want {
		t.Fatalf("%d watches in the tree, and %d by their numbers, not %d", n, len(x.nodes), want)
	}
	for id, n := range x.nodes {
		if n.Id != id {
			t.Fatalf("%d is the number of %+v", id, n.Sub)
		}
	}
}

// ranged is a watch of a range that hangs on its number; some have no end.
func ranged(id int) Sub {
	r := api.Range{From: fmt.Sprintf("%04d", id), To: fmt.Sprintf("%04d", id+1+id*31%17)}
	if id%40 == 39 {
		r.To = ""
	}
	return Sub{Id: id, R: r}
}

func TestShape(t *testing.T) {
	const n = 200
	places := map[string]func(i int) int{
		"rising":         func(i int) int { return i },
		"falling":        func(i int) int { return n - 1 - i },
		"from both ends": func(i int) int { return i%2*(n-i) + i/2 },
		"from between":   func(i int) int { return i * 71 % n },
	}
	for added, from := range places {
		for gone, to := range places {
			x := New()
			for i := range n {
				x.Add(ranged(from(i)))
				soundIndex(t, x, i+1)
			}
			for i := range n {
				if x.Del(to(i)) != api.OK {
					t.Fatalf("added %s, gone %s: %d isn't there", added, gone, to(i))
				}
				soundIndex(t, x, n-1-i)
			}
		}
	}
}

func TestShapeOfLongWays(t *testing.T) {
	x := New()
	chance := uint64(1)
	for range 20000 {
		chance = chance*6364136223846793005 + 1442695040888963407
		id := int(chance >> 33 % 128)
		if chance>>60 < 8 {
			x.Add(ranged(id))
		} else {
			x.Del(id)
		}
		soundIndex(t, x, len(x.nodes))
	}
}

// Where a hull doesn't have the key, nothing is gone through: a watch that is made to have the key there isn't found.
func TestHullsAreKeptTo(t *testing.T) {
	build := func() *Index {
		x := New()
		for id := range 7 {
			x.Add(Sub{Id: id, R: api.Range{From: fmt.Sprint(id), To: fmt.Sprint(id + 1)}})
		}
		return x
	}
	for lost := range 7 {
		for at := range 7 {
			x := build()
			x.nodes[lost].R = api.Range{}
			// The root is 3, below it stand 1 and 5; their hulls have 0 to 2 and 4 to 6, those below them one each.
			through := lost == at || lost == 3 || lost == 1 && at < 3 || lost == 5 && at > 3
			want := 1
			if through && lost != at {
				want = 2
			}
			if ids := x.Stab(fmt.Sprint(at), 1); len(ids) != want {
				t.Errorf("%d, with %d made to have it: %v", at, lost, ids)
			}
		}
	}
}
