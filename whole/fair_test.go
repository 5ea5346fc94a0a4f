package whole

import (
	"math/rand"
	"testing"

	"donjon/fair"
	"donjon/replay"
)

// TestP19_3Over lets machines whose programs go on be over, whatever was done with them ahead.
func TestP19_3Over(t *testing.T) {
	for seed := range int64(600) {
		r := rand.New(rand.NewSource(seed))
		c := sample(r, true)
		if !fair.Straight(c) || c.Depth < 2 {
			t.Fatal("the sample")
		}
		m := made(t, c)
		for range r.Intn(400) {
			if d, is := pick(r, m); is {
				m.Do(d)
			}
		}
		n, over := fair.Calm(m, fair.Bound(c))
		if !over || n > fair.Bound(c) {
			t.Fatal(seed, n, fair.Bound(c))
		}
		if !replay.Holds(c, m) {
			t.Fatal(seed)
		}
		words(t, c, m)
	}
}
