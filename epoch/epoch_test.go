package epoch_test

import (
	"math"
	"math/rand"
	"testing"

	"seizin/epoch"
)

func TestP91New(t *testing.T) {
	a, b := epoch.New(), epoch.New()
	if a.Now() != 0 || a.Runs() {
		t.Error(a.Now())
	}
	if !a.Begin() || b.Now() != 0 {
		t.Error("one clock is another one")
	}
}

func TestP91BeginAndEnd(t *testing.T) {
	c := epoch.New()
	for time := int64(0); time < 300; time += 2 {
		if c.End() || c.Now() != time || c.Runs() {
			t.Fatal("none runs", c.Now())
		}
		if !c.Begin() || c.Now() != time+1 || !c.Runs() {
			t.Fatal("begin", c.Now())
		}
		if c.Begin() || c.Now() != time+1 || !c.Runs() {
			t.Fatal("one runs", c.Now())
		}
		if !c.End() || c.Now() != time+2 || c.Runs() {
			t.Fatal("end", c.Now())
		}
	}
}

func TestP91When(t *testing.T) {
	last := int64(1) << 41
	for at, want := range map[int64]int64{
		math.MinInt64: 2, -3: 2, -2: 2, -1: 2, 0: 2, 1: 4, 2: 4, 3: 6, 4: 6, 5: 8, 1001: 1004,
		last - 2: last, last - 1: last + 2, last: last + 2, last + 1: last + 2, last + 2: last + 2, last + 3: last + 2, math.MaxInt64: last + 2,
	} {
		if got := epoch.When(at); got != want {
			t.Error(at, got)
		}
	}
}

func TestP91Over(t *testing.T) {
	c := epoch.New()
	for range 40 {
		for _, at := range []int64{math.MinInt64, -1, 0, 1, 2, 3, 4, 7, 8, 19, 20, 21, 1 << 41, math.MaxInt64} {
			if got := c.Over(at); got != (c.Now() >= epoch.When(at)) {
				t.Error(c.Now(), at, got)
			}
		}
		if !c.Begin() {
			c.End()
		}
	}
}

func TestP92WholeOnes(t *testing.T) {
	r := rand.New(rand.NewSource(17))
	for range 50 {
		c := epoch.New()
		began, whole := map[int64]bool{}, map[int64]bool{}
		for range 60 {
			// A time is over just when an epoch that has begun behind it has ended.
			now := c.Now()
			if _, is := began[now]; !is {
				began[now], whole[now] = false, false
			}
			if r.Intn(2) == 0 {
				if c.Begin() {
					for at := range began {
						began[at] = true
					}
				}
			} else if c.End() {
				for at := range whole {
					whole[at] = whole[at] || began[at]
				}
			}
			for at, want := range whole {
				if c.Over(at) != want {
					t.Fatal(c.Now(), at)
				}
			}
		}
	}
}
