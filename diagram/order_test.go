package diagram

import (
	"math"
	"math/rand"
	"slices"
	"testing"

	"choice/tables"
)

// some: a diagram of drawn functions by a drawn order, and links to them.
func some(r *rand.Rand) (Diagram, []Link) {
	vars := 1 + r.Intn(6)
	d := Diagram{order: r.Perm(vars)}
	links := []Link{No, Yes}
	for range 1 + r.Intn(5) {
		grown, l := d.With(r.Uint64() & r.Uint64() & tables.Full(vars))
		d = grown
		links = append(links, l)
	}
	return d, links
}

// sameFunctions: the second diagram has the functions of these links and no
// node beside theirs.
func sameFunctions(t *testing.T, d *Diagram, links []Link, e *Diagram, led []Link) {
	t.Helper()
	sound(t, e)
	if len(led) != len(links) {
		t.Fatalf("%d links for %d", len(led), len(links))
	}
	anew := Diagram{order: e.order}
	for i, l := range links {
		if e.Table(led[i]) != d.Table(l) {
			t.Fatalf("the link %d says %x, want %x", led[i], e.Table(led[i]), d.Table(l))
		}
		grown, _ := anew.With(d.Table(l))
		anew = grown
	}
	if e.Nodes() != anew.Nodes() {
		t.Fatalf("%d nodes, %d are needed", e.Nodes(), anew.Nodes())
	}
}

func TestMove(t *testing.T) {
	r := rand.New(rand.NewSource(3))
	for range 60 {
		d, links := some(r)
		given, nodes, order := slices.Clone(links), slices.Clone(d.nodes), d.Order()
		for from := range order {
			for to := range order {
				next, led := d.Move(from, to, links)
				want := slices.Insert(slices.Delete(d.Order(), from, from+1), to, order[from])
				if got := next.Order(); !slices.Equal(got, want) {
					t.Fatalf("Move(%d, %d) of %v: %v, want %v", from, to, order, got, want)
				}
				sameFunctions(t, &d, links, &next, led)
			}
		}
		if !slices.Equal(links, given) || !slices.Equal(d.nodes, nodes) || !slices.Equal(d.order, order) {
			t.Fatalf("Move changed what it was given")
		}
	}
}

func TestMoveOfNoLevel(t *testing.T) {
	r := rand.New(rand.NewSource(4))
	for range 20 {
		d, links := some(r)
		for _, bad := range []int{math.MinInt, -1, len(d.order), math.MaxInt} {
			for _, c := range [][2]int{{bad, 0}, {0, bad}, {bad, bad}} {
				next, led := d.Move(c[0], c[1], links)
				if got := next.Order(); !slices.Equal(got, d.order) {
					t.Fatalf("Move(%d, %d) of %v: %v", c[0], c[1], d.order, got)
				}
				sameFunctions(t, &d, links, &next, led)
			}
		}
	}
}

func TestSift(t *testing.T) {
	r := rand.New(rand.NewSource(5))
	for range 80 {
		d, links := some(r)
		given, nodes, order := slices.Clone(links), slices.Clone(d.nodes), d.Order()
		best, led := d.Sift(links)
		sameFunctions(t, &d, links, &best, led)
		if best.Nodes() > d.Nodes() {
			t.Fatalf("Sift from %d nodes to %d", d.Nodes(), best.Nodes())
		}
		for from := range order {
			for to := range order {
				if next, _ := best.Move(from, to, led); next.Nodes() < best.Nodes() {
					t.Fatalf("Move(%d, %d) betters what Sift found", from, to)
				}
			}
		}
		again, _ := best.Sift(led)
		if !slices.Equal(again.order, best.order) {
			t.Fatalf("Sift left %v for %v, which is no better", best.order, again.order)
		}
		if !slices.Equal(links, given) || !slices.Equal(d.nodes, nodes) || !slices.Equal(d.order, order) {
			t.Fatalf("Sift changed what it was given")
		}
	}
}

func TestSiftOfSomeLinks(t *testing.T) {
	// Nodes of functions that are not asked for must not weigh.
	r := rand.New(rand.NewSource(6))
	for range 40 {
		d, links := some(r)
		last := links[len(links)-1:]
		alone, led := d.Keep(last)
		best, _ := d.Sift(last)
		want, _ := alone.Sift(led)
		if best.Nodes() != want.Nodes() || !slices.Equal(best.order, want.order) {
			t.Fatalf("Sift beside other functions: %v, %d nodes, alone %v, %d nodes", best.order, best.Nodes(), want.order, want.Nodes())
		}
	}
}

func TestSiftOfNothing(t *testing.T) {
	for vars := 0; vars <= 6; vars++ {
		d := New(vars)
		if best, led := d.Sift(nil); best.Nodes() != 0 || len(led) != 0 || !slices.Equal(best.order, d.order) {
			t.Errorf("Sift of nothing: %d nodes, %v, %v", best.Nodes(), led, best.order)
		}
		if next, led := d.Move(0, 0, nil); next.Nodes() != 0 || len(led) != 0 || !slices.Equal(next.order, d.order) {
			t.Errorf("Move of nothing: %d nodes, %v, %v", next.Nodes(), led, next.order)
		}
	}
}
