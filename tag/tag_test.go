package tag_test

import (
	"cmp"
	"math"
	"strings"
	"testing"

	"sakia/api"
	"sakia/tag"
)

const (
	top  = math.MaxInt
	low  = math.MinInt
	most = 1<<20 - 1
)

// rights returns right tags with small and with the greatest numbers.
func rights() []api.Tag {
	var l []api.Tag
	long := []int{0, 1, 10, most}
	for _, step := range long {
		for _, bucket := range long {
			for phase := range 2 {
				for _, round := range []int{0, 1, 9, 61, 62} {
					for _, chunk := range long {
						l = append(l, api.Tag{Step: step, Bucket: bucket, Phase: phase, Round: round, Chunk: chunk})
					}
				}
			}
		}
	}
	return l
}

// wrongs returns tags with one wrong number.
func wrongs() []api.Tag {
	var l []api.Tag
	for _, n := range []int{low, -1, 1 << 20, 1<<20 + 1, 1 << 40, top} {
		l = append(l, api.Tag{Step: n}, api.Tag{Bucket: n}, api.Tag{Chunk: n}, api.Tag{Phase: n}, api.Tag{Round: n})
	}
	return append(l, api.Tag{Phase: 2}, api.Tag{Round: 63}, api.Tag{Round: 64}, api.Tag{Step: -1, Bucket: 1 << 20}, api.Tag{Phase: -1, Round: 64})
}

// TestRight covers the Right and the Phase of P17.1.
func TestRight(t *testing.T) {
	for _, x := range rights() {
		if !tag.Right(x) {
			t.Error(x)
		}
	}
	for _, x := range wrongs() {
		if tag.Right(x) {
			t.Error(x)
		}
	}
	for _, c := range []struct {
		n    int
		name string
	}{{0, "scatter"}, {1, "gather"}, {2, ""}, {-1, ""}, {low, ""}, {top, ""}} {
		if got := tag.Phase(c.n); got != c.name {
			t.Error(c.n, got)
		}
	}
}

// order compares tags by the definition.
func order(a, b api.Tag) int {
	return cmp.Or(cmp.Compare(a.Step, b.Step), cmp.Compare(a.Bucket, b.Bucket), cmp.Compare(a.Phase, b.Phase), cmp.Compare(a.Round, b.Round), cmp.Compare(a.Chunk, b.Chunk))
}

// TestCompare covers the Compare of P17.1, and P17.4.
func TestCompare(t *testing.T) {
	l := append(rights(), wrongs()...)
	for _, a := range l {
		for _, b := range l {
			want := order(a, b)
			if got := tag.Compare(a, b); got != want {
				t.Fatal(a, b, got)
			}
			p, right := tag.Pack(a)
			q, also := tag.Pack(b)
			if right && also && cmp.Or(cmp.Compare(p[0], q[0]), cmp.Compare(p[1], q[1])) != want {
				t.Fatal(a, b, p, q)
			}
		}
	}
}

// TestPack covers P17.2 and P17.4.
func TestPack(t *testing.T) {
	for _, x := range rights() {
		p, ok := tag.Pack(x)
		if p != [2]uint64{uint64(x.Step)*(1<<20) + uint64(x.Bucket), (uint64(x.Phase)*64+uint64(x.Round))*(1<<20) + uint64(x.Chunk)} || !ok {
			t.Fatal(x, p, ok)
		}
		if y, ok := tag.Unpack(p); y != x || !ok {
			t.Fatal(x, y, ok)
		}
	}
	for _, x := range wrongs() {
		if p, ok := tag.Pack(x); p != [2]uint64{} || ok {
			t.Error(x, p, ok)
		}
	}
	for _, p := range [][2]uint64{
		{1 << 40, 0}, {math.MaxUint64, 0}, {0, math.MaxUint64}, {1 << 63, 0}, {0, 1 << 63}, {0, 63 << 20}, {0, 127 << 20}, {0, 128 << 20}, {0, 128<<20 - 1}, {0, 64<<20 - 1}, {0, 1 << 32}, {1<<40 - 1, 1 << 40}, {1 << 44, 1}, {1 << 60, 5},
	} {
		if x, ok := tag.Unpack(p); x != (api.Tag{}) || ok {
			t.Error(p, x, ok)
		}
	}
	if x, ok := tag.Unpack([2]uint64{1<<40 - 1, 127<<20 - 1}); x != (api.Tag{Step: most, Bucket: most, Phase: 1, Round: 62, Chunk: most}) || !ok {
		t.Error(x, ok)
	}
}

// TestText covers P17.3 and P17.4.
func TestText(t *testing.T) {
	for _, c := range []struct {
		x    api.Tag
		want string
	}{
		{api.Tag{Step: 2, Phase: 1, Round: 3, Chunk: 4}, "s2.b0.gather3.c4"},
		{api.Tag{}, "s0.b0.scatter0.c0"},
		{api.Tag{Step: most, Bucket: most, Phase: 1, Round: 62, Chunk: most}, "s1048575.b1048575.gather62.c1048575"},
		{api.Tag{Step: 10, Bucket: 20, Round: 30, Chunk: 40}, "s10.b20.scatter30.c40"},
	} {
		if got := tag.Text(c.x); got != c.want {
			t.Error(c.x, got)
		}
	}
	for _, x := range rights() {
		s := tag.Text(x)
		if y, ok := tag.Parse(s); y != x || !ok {
			t.Fatal(x, s, y, ok)
		}
	}
	for _, x := range wrongs() {
		if s := tag.Text(x); s != "" {
			t.Error(x, s)
		}
	}
}

// TestParseRefuses: texts that no right tag has.
func TestParseRefuses(t *testing.T) {
	const text = "s2.b0.gather3.c4"
	l := []string{"", ".", "...", "....", "s.b.gather.c", text + ".", "." + text, text + " ", " " + text, text + "\n", text + ".c5", "b0.s2.gather3.c4", "s2.b0.c4.gather3", "s2.b0.gather3", "s2..b0.gather3.c4", strings.ToUpper(text), "2.0.3.4"}
	for _, c := range [][2]string{
		{"s2", "s"}, {"s2", "2"}, {"s2", "s-2"}, {"s2", "s02"}, {"s2", "s+2"}, {"s2", "s 2"}, {"s2", "x2"}, {"s2", "s1048576"}, {"s2", "s99999999999999999999"}, {"s2", "s2.5"}, {"s2", "ss2"}, {"s2", ""},
		{"b0", "b00"}, {"b0", "b"}, {"b0", "b-0"}, {"b0", "b1048576"}, {"b0", "a0"}, {"b0", ""},
		{"gather3", "gather"}, {"gather3", "gather63"}, {"gather3", "gather64"}, {"gather3", "gather03"}, {"gather3", "gather-3"}, {"gather3", "scatter63"}, {"gather3", "gatherscatter3"}, {"gather3", "gath3"}, {"gather3", "Gather3"}, {"gather3", "3"}, {"gather3", "s3"},
		{"c4", "c"}, {"c4", "c04"}, {"c4", "c1048576"}, {"c4", "d4"}, {"c4", "c4c"}, {"c4", ""}, {"c4", "c4\x00"}, {"c4", "c٤"},
	} {
		l = append(l, strings.Replace(text, c[0], c[1], 1))
	}
	for _, s := range l {
		if x, ok := tag.Parse(s); x != (api.Tag{}) || ok {
			t.Error(s, x, ok)
		}
	}
}
