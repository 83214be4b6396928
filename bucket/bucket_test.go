package bucket_test

import (
	"math"
	"slices"
	"testing"

	"sakia/api"
	"sakia/bucket"
	"sakia/part"
)

const (
	top = math.MaxInt
	low = math.MinInt
)

// shift returns ranges that begin further behind.
func shift(l []part.Range, by int) []part.Range {
	var shifted []part.Range
	for _, r := range l {
		shifted = append(shifted, part.Range{Lo: r.Lo + by, Hi: r.Hi + by})
	}
	return shifted
}

// TestBuckets covers P15.1.
func TestBuckets(t *testing.T) {
	if l := bucket.Buckets(5, 2); !slices.Equal(l, []part.Range{{Lo: 4, Hi: 5}, {Lo: 2, Hi: 4}, {Lo: 0, Hi: 2}}) {
		t.Error(l)
	}
	for params := 1; params < 40; params++ {
		for _, size := range []int{1, 2, 3, 7, 39, 40, 41, 1000, api.MaxSize, top} {
			want := part.Blocks(params, size)
			slices.Reverse(want)
			if l := bucket.Buckets(params, size); !slices.Equal(l, want) {
				t.Error(params, size, l)
			}
		}
	}
	for _, c := range [][2]int{{0, 1}, {-1, 1}, {1, 0}, {1, -1}, {low, 1}, {1, low}, {0, 0}, {low, low}, {-3, -3}} {
		if l := bucket.Buckets(c[0], c[1]); len(l) != 0 {
			t.Error(c, l)
		}
	}
}

// TestSegments covers P15.2.
func TestSegments(t *testing.T) {
	if l := bucket.Segments(part.Range{Lo: 10, Hi: 15}, 2); !slices.Equal(l, []part.Range{{Lo: 10, Hi: 13}, {Lo: 13, Hi: 15}}) {
		t.Error(l)
	}
	if l := bucket.Chunks(part.Range{Lo: 10, Hi: 15}, 2); !slices.Equal(l, []part.Range{{Lo: 10, Hi: 12}, {Lo: 12, Hi: 14}, {Lo: 14, Hi: 15}}) {
		t.Error(l)
	}
	for _, lo := range []int{0, 1, 77, api.MaxSize - 20} {
		for n := range 20 {
			b := part.Range{Lo: lo, Hi: lo + n}
			for _, k := range []int{1, 2, 3, 7, 19, 20, 21, 64} {
				checkSegments(t, b, k)
			}
			for _, k := range []int{0, -1, low} {
				if len(bucket.Segments(b, k)) != 0 || len(bucket.Chunks(b, k)) != 0 || bucket.Messages(b, k, 1) != 0 || bucket.Messages(b, 1, k) != 0 {
					t.Error(b, k)
				}
			}
		}
	}
}

func checkSegments(t *testing.T, b part.Range, workers int) {
	t.Helper()
	n := b.Hi - b.Lo
	segments := bucket.Segments(b, workers)
	if !slices.Equal(segments, shift(part.Even(n, workers), b.Lo)) {
		t.Fatal(b, workers, segments)
	}
	for _, size := range []int{1, 2, 3, 7, 19, 20, 21, top} {
		if l := bucket.Chunks(b, size); !slices.Equal(l, shift(part.Blocks(n, size), b.Lo)) {
			t.Fatal(b, size, l)
		}
		count := 0
		for _, s := range segments {
			count += len(bucket.Chunks(s, size))
		}
		if got := bucket.Messages(b, workers, size); got != count {
			t.Fatal(b, workers, size, got, count)
		}
	}
}

// TestGreatest: the greatest numbers of workers and of parameters.
func TestGreatest(t *testing.T) {
	whole := part.Range{Lo: 0, Hi: api.MaxSize}
	if n := len(bucket.Segments(whole, api.MaxSize)); n != api.MaxSize {
		t.Error(n)
	}
	if n := bucket.Messages(whole, api.MaxSize, 5); n != api.MaxSize {
		t.Error(n)
	}
	if n := bucket.Messages(whole, 3, 1); n != api.MaxSize {
		t.Error(n)
	}
	if n := bucket.Messages(whole, 3, top); n != 3 {
		t.Error(n)
	}
	if p, ok := bucket.Find(api.MaxSize-1, api.MaxSize, 1, api.MaxSize, 1); p != (bucket.Place{}) || !ok {
		t.Error(p, ok)
	}
	if p, ok := bucket.Find(api.MaxSize-1, api.MaxSize, top, 2, top); p != (bucket.Place{Segment: 1}) || !ok {
		t.Error(p, ok)
	}
}

// TestFind covers P15.3 and P15.5.
func TestFind(t *testing.T) {
	for _, c := range [][4]int{{13, 5, 2, 2}, {13, 5, 3, 1}, {12, 4, 4, 1}, {12, 100, 5, 2}, {1, 1, 1, 1}, {30, 7, 9, 2}, {30, 1, 4, 3}, {30, 30, 1, 4}, {17, 6, 2, top}, {17, top, 2, 3}} {
		params, size, workers, chunk := c[0], c[1], c[2], c[3]
		seen := make([]int, params)
		for b, r := range bucket.Buckets(params, size) {
			for s, segment := range bucket.Segments(r, workers) {
				for k, at := range bucket.Chunks(segment, chunk) {
					for i := at.Lo; i < at.Hi; i++ {
						seen[i]++
						if p, ok := bucket.Find(i, params, size, workers, chunk); p != (bucket.Place{Bucket: b, Segment: s, Chunk: k}) || !ok {
							t.Error(c, i, p, ok)
						}
					}
				}
			}
		}
		for i, n := range seen {
			if n != 1 {
				t.Error(c, i, n)
			}
		}
		for _, i := range []int{low, -1, params, params + 1, top} {
			if p, ok := bucket.Find(i, params, size, workers, chunk); p != (bucket.Place{}) || ok {
				t.Error(c, i, p, ok)
			}
		}
	}
	for _, n := range []int{0, -1, low} {
		for i, c := range [][4]int{{n, 2, 2, 2}, {5, n, 2, 2}, {5, 2, n, 2}, {5, 2, 2, n}} {
			if p, ok := bucket.Find(0, c[0], c[1], c[2], c[3]); p != (bucket.Place{}) || ok {
				t.Error(n, i, p, ok)
			}
		}
	}
}

// TestGroups covers P15.4.
func TestGroups(t *testing.T) {
	if l := bucket.Groups(5, 2); !slices.Equal(l, []part.Range{{Lo: 0, Hi: 2}, {Lo: 2, Hi: 4}, {Lo: 4, Hi: 5}}) {
		t.Error(l)
	}
	for buckets := 1; buckets < 20; buckets++ {
		for _, window := range []int{1, 2, 3, 19, 20, api.MaxSize, top} {
			if l := bucket.Groups(buckets, window); !slices.Equal(l, part.Blocks(buckets, window)) || !part.Covers(buckets, l...) {
				t.Error(buckets, window, l)
			}
		}
	}
	for _, c := range [][2]int{{0, 1}, {-1, 1}, {1, 0}, {1, -1}, {low, 1}, {1, low}} {
		if l := bucket.Groups(c[0], c[1]); len(l) != 0 {
			t.Error(c, l)
		}
	}
}
