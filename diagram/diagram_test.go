package diagram

import (
	"math"
	"math/rand"
	"slices"
	"testing"

	"choice/tables"
)

// sound: the diagram is as its comment says, and asks by its order.
func sound(t *testing.T, d *Diagram) {
	t.Helper()
	for i, n := range d.nodes {
		if n.No == n.Yes {
			t.Fatalf("node %d has two equal links: %v", i, n)
		}
		for j, m := range d.nodes[:i] {
			if m == n {
				t.Fatalf("nodes %d and %d are alike: %v", j, i, n)
			}
		}
		for _, l := range []Link{n.No, n.Yes} {
			if l < No || int(l) >= first+i {
				t.Fatalf("node %d links to %d, which is no earlier one", i, l)
			}
			if l >= first && slices.Index(d.order, d.nodes[l-first].Variable) <= slices.Index(d.order, n.Variable) {
				t.Fatalf("node %d links to %d against the order %v", i, l, d.order)
			}
		}
	}
}

func TestNewAndOrder(t *testing.T) {
	for _, c := range []struct{ vars, want int }{{math.MinInt, 0}, {-1, 0}, {0, 0}, {1, 1}, {6, 6}, {7, 6}, {math.MaxInt, 6}} {
		d := New(c.vars)
		order := d.Order()
		if len(order) != c.want || d.Nodes() != 0 {
			t.Errorf("New(%d): the order %v, %d nodes", c.vars, order, d.Nodes())
		}
		for i := range order {
			if order[i] != i {
				t.Errorf("New(%d): the order %v", c.vars, order)
			}
			order[i] = 9
		}
		if again := d.Order(); slices.Contains(again, 9) {
			t.Errorf("the order was changed from outside: %v", again)
		}
	}
}

func TestWithTellsItsTable(t *testing.T) {
	r := rand.New(rand.NewSource(1))
	for vars := 1; vars <= 6; vars++ {
		for range 20 {
			d := Diagram{order: r.Perm(vars)}
			var links []Link
			var all []uint64
			for range 10 {
				table := r.Uint64() & r.Uint64() & tables.Full(vars)
				before := slices.Clone(d.nodes)
				grown, l := d.With(table)
				if !slices.Equal(before, d.nodes) {
					t.Fatalf("With changed the diagram")
				}
				if again, k := grown.With(table); again.Nodes() != grown.Nodes() || k != l {
					t.Fatalf("the same function once more: %d nodes for %d, the link %d for %d", again.Nodes(), grown.Nodes(), k, l)
				}
				d = grown
				sound(t, &d)
				links = append(links, l)
				all = append(all, table)
			}
			for i, l := range links {
				if got := d.Table(l); got != all[i] {
					t.Fatalf("Table = %x, want %x", got, all[i])
				}
			}
		}
	}
}

func TestList(t *testing.T) {
	// Just one of 0 and 2, beside variable 1: its first link's node, its
	// second link's, itself.
	d := New(3)
	d, _ = d.With(204)
	d, l := d.With(90)
	want := []Node{{1, No, Yes}, {2, No, Yes}, {2, Yes, No}, {0, first + 1, first + 2}}
	list := d.List()
	if !slices.Equal(list, want) || l.Number() != 3 {
		t.Errorf("List = %v, want %v; the number %d", list, want, l.Number())
	}
	if No.Number() >= 0 || Yes.Number() >= 0 || want[3].Yes.Number() != 2 {
		t.Errorf("the numbers %d, %d, %d", No.Number(), Yes.Number(), want[3].Yes.Number())
	}
	for i := range list[:cap(list)] {
		list[:cap(list)][i] = Node{}
	}
	if again := d.List(); !slices.Equal(again, want) {
		t.Errorf("the nodes were changed from outside: %v", again)
	}
}

func TestSizeGoesByTheOrder(t *testing.T) {
	pairs := tables.Variable(0, 6)&tables.Variable(1, 6) | tables.Variable(2, 6)&tables.Variable(3, 6) | tables.Variable(4, 6)&tables.Variable(5, 6)
	for _, c := range []struct {
		order []int
		size  int
	}{{[]int{0, 1, 2, 3, 4, 5}, 6}, {[]int{5, 4, 0, 1, 3, 2}, 6}, {[]int{0, 2, 4, 1, 3, 5}, 14}} {
		d := Diagram{order: c.order}
		grown, l := d.With(pairs)
		if got := grown.Size(l); got != c.size || grown.Nodes() != c.size {
			t.Errorf("by the order %v: Size = %d, %d nodes, want %d", c.order, got, grown.Nodes(), c.size)
		}
		if grown.Support(l) != 63 {
			t.Errorf("Support = %d", grown.Support(l))
		}
	}
}

func TestAnswersAreNoNodes(t *testing.T) {
	d := New(3)
	no, l := d.With(0)
	yes, k := no.With(255)
	if l != No || k != Yes || yes.Nodes() != 0 {
		t.Errorf("the functions that are the same everywhere: %d, %d, %d nodes", l, k, yes.Nodes())
	}
	for _, l := range []Link{No, Yes} {
		if yes.Size(l) != 0 || yes.Support(l) != 0 || yes.Says(l, 5) != (l == Yes) {
			t.Errorf("the answer %d: %d nodes, the support %d", l, yes.Size(l), yes.Support(l))
		}
	}
}

func TestKeep(t *testing.T) {
	r := rand.New(rand.NewSource(2))
	for range 200 {
		vars := 1 + r.Intn(6)
		d := Diagram{order: r.Perm(vars)}
		var links []Link
		for range 8 {
			grown, l := d.With(r.Uint64() & tables.Full(vars))
			d = grown
			links = append(links, l)
		}
		some := []Link{No, links[5], links[2], Yes, links[2]}
		given := slices.Clone(some)
		before := slices.Clone(d.nodes)
		kept, moved := d.Keep(some)
		if !slices.Equal(some, given) || !slices.Equal(d.nodes, before) {
			t.Fatalf("Keep changed what it was given")
		}
		sound(t, &kept)
		anew := Diagram{order: d.order}
		for i, l := range some {
			if kept.Table(moved[i]) != d.Table(l) {
				t.Fatalf("Keep changed the function of %d", l)
			}
			grown, _ := anew.With(d.Table(l))
			anew = grown
		}
		if kept.Nodes() != anew.Nodes() {
			t.Fatalf("Keep left %d nodes, %d are needed", kept.Nodes(), anew.Nodes())
		}
	}
}

func TestLinksThatLeadNowhere(t *testing.T) {
	d := New(3)
	d, _ = d.With(90)
	for _, l := range []Link{math.MinInt, -1, 5, math.MaxInt} {
		if d.Says(l, 0) || d.Table(l) != 0 || d.Size(l) != 0 || d.Support(l) != 0 {
			t.Errorf("the link %d says something", l)
		}
		if kept, moved := d.Keep([]Link{l}); kept.Nodes() != 0 || moved[0] != No {
			t.Errorf("Keep of the link %d: %d nodes, %v", l, kept.Nodes(), moved)
		}
	}
}
