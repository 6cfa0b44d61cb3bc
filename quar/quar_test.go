package quar_test

import (
	"math"
	"math/rand"
	"slices"
	"testing"

	"seizin/api"
	"seizin/epoch"
	"seizin/quar"
)

const most = 1 << 24

func TestP131New(t *testing.T) {
	for full, want := range map[int]bool{math.MinInt: false, -1: false, 0: false, 1: true, 16: true, most: true, most + 1: false, math.MaxInt: false} {
		q := quar.New(full)
		if (q != nil) != want {
			t.Error(full)
		}
		if q != nil && (q.Bytes() != 0 || q.Many() != 0 || q.Full() || len(q.All()) != 0 || len(q.Due(1<<41)) != 0) {
			t.Error(full, "is not empty")
		}
	}
}

func TestP131PutAtTheEdges(t *testing.T) {
	for _, at := range []int{math.MinInt, -1, 0, 1, most, most + 1, math.MaxInt} {
		for _, n := range []int{math.MinInt, -1, 0, 1, most, most + 1, math.MaxInt} {
			for _, time := range []int64{math.MinInt64, -1, 0, 1, 1 << 41, 1<<41 + 1, math.MaxInt64} {
				q := quar.New(8)
				h := api.Held{At: at, N: n, Time: time}
				want := at >= 0 && at <= most && n >= 0 && n <= most && time >= 0 && time <= 1<<41
				if q.Put(h) != want {
					t.Fatal(h)
				}
				var all []api.Held
				bytes := 0
				if want {
					all, bytes = []api.Held{h}, n
				}
				if !slices.Equal(q.All(), all) || q.Many() != len(all) || q.Bytes() != bytes || q.Full() != (bytes >= 8) {
					t.Fatal(h, q.All())
				}
			}
		}
	}
}

func TestP131PutInTime(t *testing.T) {
	q := quar.New(100)
	for i, row := range []struct {
		time int64
		want bool
	}{{3, true}, {2, false}, {3, true}, {0, false}, {5, true}, {4, false}, {3, false}, {5, true}, {-1, false}} {
		if q.Put(api.Held{At: i, N: 16, Time: row.time}) != row.want {
			t.Error(i)
		}
	}
	if q.Many() != 4 || q.Bytes() != 64 {
		t.Error(q.All())
	}
	if due := q.Due(6); len(due) != 2 || q.Put(api.Held{Time: 4}) || !q.Put(api.Held{Time: 5}) {
		t.Error("while some are held", due)
	}
	if due := q.Due(8); len(due) != 3 || !q.Put(api.Held{Time: 0}) {
		t.Error("when none is held", due)
	}
}

func TestP131Full(t *testing.T) {
	q := quar.New(40)
	for i, want := range []bool{false, false, true, true} {
		q.Put(api.Held{N: 16, Time: int64(i)})
		if q.Full() != want {
			t.Error(i)
		}
	}
	exact := quar.New(32)
	exact.Put(api.Held{N: 31})
	if exact.Full() {
		t.Error(31)
	}
	exact.Put(api.Held{N: 1})
	if !exact.Full() {
		t.Error(32)
	}
}

func TestP131Due(t *testing.T) {
	q := quar.New(100)
	var all []api.Held
	for i, time := range []int64{0, 1, 1, 2, 3, 4, 7} {
		all = append(all, api.Held{At: i, N: 16, Time: time})
		q.Put(all[i])
	}
	done := 0
	for _, row := range []struct {
		now  int64
		many int
	}{{math.MinInt64, 0}, {-1, 0}, {0, 0}, {1, 0}, {2, 1}, {2, 0}, {3, 0}, {4, 3}, {5, 0}, {7, 2}, {9, 0}, {10, 1}, {math.MaxInt64, 0}} {
		got := q.Due(row.now)
		if !slices.Equal(got, all[done:done+row.many]) {
			t.Fatal(row, got)
		}
		done += row.many
		if !slices.Equal(q.All(), all[done:]) || q.Many() != len(all)-done || q.Bytes() != 16*(len(all)-done) {
			t.Fatal(row, q.All())
		}
	}
	q = quar.New(1)
	q.Put(api.Held{Time: 3})
	if len(q.Due(5)) != 0 || len(q.Due(6)) != 1 {
		t.Error("example")
	}
	q.Put(api.Held{Time: 1 << 41})
	if len(q.Due(1<<41+1)) != 0 || len(q.Due(1<<41+2)) != 1 {
		t.Error("the last time")
	}
}

func TestP131AnswersAreNewMemory(t *testing.T) {
	q := quar.New(100)
	for i := range 6 {
		q.Put(api.Held{At: i, N: 1})
	}
	all := q.All()
	all[0].At = 99
	_ = append(all[:2], api.Held{At: 98})
	if q.All()[0].At != 0 || q.All()[2].At != 2 {
		t.Error(q.All())
	}
	q.Put(api.Held{At: 6, N: 1, Time: 9})
	due := q.Due(2)
	_ = append(due, api.Held{At: 97})
	if l := q.All(); len(l) != 1 || l[0].At != 6 {
		t.Error(l)
	}
}

func TestP132AllOfIt(t *testing.T) {
	r := rand.New(rand.NewSource(24))
	for range 100 {
		q, clock := quar.New(64), epoch.New()
		var put, out []api.Held
		for i := range 200 {
			switch r.Intn(4) {
			case 0:
				if !clock.Begin() {
					clock.End()
				}
			case 1:
				for _, h := range q.Due(clock.Now()) {
					if !clock.Over(h.Time) {
						t.Fatal(h, clock.Now())
					}
					out = append(out, h)
				}
			default:
				h := api.Held{At: i, N: r.Intn(40), Time: clock.Now()}
				if !q.Put(h) {
					t.Fatal(h)
				}
				put = append(put, h)
			}
			if !slices.Equal(append(slices.Clone(out), q.All()...), put) {
				t.Fatal(out, q.All(), put)
			}
		}
		for range 4 {
			if !clock.Begin() {
				clock.End()
			}
		}
		if out = append(out, q.Due(clock.Now())...); !slices.Equal(out, put) || q.Many() != 0 {
			t.Fatal("not all of it came out", out)
		}
	}
}

func TestP133Sums(t *testing.T) {
	r := rand.New(rand.NewSource(25))
	for range 50 {
		full := 1 + r.Intn(200)
		q := quar.New(full)
		sum, time := 0, int64(0)
		for range 200 {
			if r.Intn(3) == 0 {
				for _, h := range q.Due(time) {
					sum -= h.N
				}
			} else {
				time += int64(r.Intn(2))
				h := api.Held{At: 5, N: r.Intn(60) - 5, Time: time - int64(r.Intn(2))}
				if q.Put(h) {
					sum += h.N
				}
			}
			if q.Bytes() != sum || q.Full() != (sum >= full) {
				t.Fatal(q.Bytes(), sum)
			}
		}
	}
}
