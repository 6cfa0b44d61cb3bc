package size_test

import (
	"math"
	"slices"
	"testing"

	"seizin/size"
)

// sizes are those of the chapter.
var sizes = []int{16, 32, 48, 64, 80, 96, 112, 128, 192, 256, 384, 512, 768, 1024}

// wrong are requests that may not be.
var wrong = []int{math.MinInt, -65536, -16, -1, 65537, 65792, 1 << 40, math.MaxInt - 255, math.MaxInt}

func TestP111Sizes(t *testing.T) {
	l := size.Sizes()
	if !slices.Equal(l, sizes) {
		t.Error(l)
	}
	l[0], l[13] = 7, 7
	_ = append(l, 9)
	if n, _ := size.Round(1); n != 16 || !slices.Equal(size.Sizes(), sizes) {
		t.Error("shared")
	}
}

func TestP111Round(t *testing.T) {
	for n := 0; n <= 65536; n++ {
		want := 256
		for want < n || want <= 1024 && n > 1024 {
			want += 256
		}
		for i := 13; i >= 0; i-- {
			if sizes[i] >= n {
				want = sizes[i]
			}
		}
		if got, is := size.Round(n); got != want || !is {
			t.Fatal(n, got, is)
		}
	}
	for _, n := range wrong {
		if got, is := size.Round(n); got != 0 || is {
			t.Error(n, got)
		}
	}
	for n, want := range map[int]int{0: 16, 16: 16, 17: 32, 129: 192, 1024: 1024, 1025: 1280, 1280: 1280, 1281: 1536, 65535: 65536, 65536: 65536} {
		if got, _ := size.Round(n); got != want {
			t.Error(n, got)
		}
	}
}

func TestP111Class(t *testing.T) {
	for n := 0; n <= 65536; n++ {
		took, _ := size.Round(n)
		want := slices.Index(sizes, took)
		if want < 0 {
			want = 14
		}
		if got := size.Class(n); got != want {
			t.Fatal(n, got)
		}
	}
	for _, n := range wrong {
		if got := size.Class(n); got != -1 {
			t.Error(n, got)
		}
	}
	for n, want := range map[int]int{0: 0, 16: 0, 17: 1, 1024: 13, 1025: 14, 65536: 14} {
		if got := size.Class(n); got != want {
			t.Error(n, got)
		}
	}
}

// taken: is that how many bytes a request may take?
func taken(n int) bool { return slices.Contains(sizes, n) || n > 1024 && n%256 == 0 }

func TestP112Least(t *testing.T) {
	for n := 0; n <= 65536; n++ {
		took, is := size.Round(n)
		if !is || took < n || !taken(took) {
			t.Fatal(n, took)
		}
		for between := n; between < took; between++ {
			if taken(between) {
				t.Fatal(n, took, between)
			}
		}
		if again, is := size.Round(took); again != took || !is {
			t.Fatal(n, took, again)
		}
	}
}

func TestP113Rises(t *testing.T) {
	last := 0
	for n := 0; n <= 65536; n++ {
		took, _ := size.Round(n)
		if took < last {
			t.Fatal(n, took)
		}
		last = took
		// Nothing was asked for by 0: then all that it takes is wasted.
		if waste := took - n; 0 < n && n <= 1024 && waste >= 16 && 2*waste >= n {
			t.Fatal(n, took)
		}
	}
}
