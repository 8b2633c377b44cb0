package choice_test

import (
	"math/rand"
	"slices"
	"testing"

	"choice/api"
)

// twos: just that neighbours 0 and 1, or 2 and 3, and so on are both yes. Few
// nodes by the natural order, and more if neighbours are parted.
func twos(n int) uint64 {
	return tableOf(n, func(p int) bool { return p&(p>>1)&0b010101 != 0 })
}

// odd: whether an odd number of variables is yes: all orders are alike to it.
func odd(n int) uint64 {
	return tableOf(n, func(p int) bool { return (p^p>>1^p>>2^p>>3^p>>4^p>>5)&1 == 1 })
}

// badLevel hands in a level that cannot be swapped.
func badLevel(m *pair, level int) {
	m.t.Helper()
	if e := m.s.Swap(level); e != api.ErrArg {
		m.t.Errorf("P9: Swap(%d) of %d variables = %d", level, m.n, e)
	}
}

func TestP9EveryLevel(t *testing.T) {
	for n := 1; n <= api.MaxVars; n++ {
		for level := -1; level <= n; level++ {
			m := newPair(t, n, api.MaxRoom)
			m.make(table64 & (1<<(1<<n) - 1))
			m.make(twos(n))
			m.swap(level)
			m.agrees()
			m.swap(n - 2)
			m.agrees()
			m.swap(0)
			m.agrees()
		}
	}
}

func TestP9KnownOrders(t *testing.T) {
	m := newPair(t, 6, api.MaxRoom)
	h := m.make(twos(6))
	for _, c := range []struct {
		level int
		want  []int
		size  int
	}{
		{0, []int{1, 0, 2, 3, 4, 5}, 6},
		{4, []int{1, 0, 2, 3, 5, 4}, 6},
		{1, []int{1, 2, 0, 3, 5, 4}, 8},
		{3, []int{1, 2, 0, 5, 3, 4}, 10},
		{2, []int{1, 2, 5, 0, 3, 4}, 14},
		{2, []int{1, 2, 0, 5, 3, 4}, 10},
	} {
		if e := m.s.Swap(c.level); e != api.OK {
			t.Fatalf("P9: Swap(%d) = %d", c.level, e)
		}
		if got := m.s.Order(); !slices.Equal(got, c.want) {
			t.Fatalf("P9: Order = %v, want %v", got, c.want)
		}
		if size, e := m.s.Size(h); size != c.size || e != api.OK || m.s.Used() != c.size {
			t.Errorf("P9: by %v: Size = %d, %d, Used = %d, want %d", c.want, size, e, m.s.Used(), c.size)
		}
		m.order = c.want
		m.agrees()
	}
}

func TestP9SwapTwice(t *testing.T) {
	r := rand.New(rand.NewSource(10))
	for n := 2; n <= api.MaxVars; n++ {
		m := newPair(t, n, api.MaxRoom)
		for range 5 {
			m.make(drawn(r, n))
		}
		for range 12 {
			level := r.Intn(n - 1)
			order, used := m.s.Order(), m.s.Used()
			m.swap(level)
			m.swap(level)
			if got := m.s.Order(); !slices.Equal(got, order) || m.s.Used() != used {
				t.Errorf("P9: Swap(%d) twice: from %v, %d nodes, to %v, %d nodes", level, order, used, got, m.s.Used())
			}
			m.agrees()
			m.swap(r.Intn(n - 1))
		}
	}
}

func TestP9LevelsOutOfBounds(t *testing.T) {
	for n := 1; n <= api.MaxVars; n++ {
		// Room for what is there and for nothing else.
		m := newPair(t, n, nodesOf(natural(n), []uint64{odd(n)}))
		for range 2 {
			for _, level := range append([]int{n - 1, n, n + 1, 6, 7}, farNumbers...) {
				badLevel(m, level)
			}
			m.agrees()
			m.make(odd(n))
			m.swap(0)
		}
		for len(m.live) < api.MaxLive {
			m.make(odd(n))
		}
		for level := -20; level < 20; level++ {
			if level < 0 || level > n-2 {
				badLevel(m, level)
			}
		}
		m.agrees()
	}
}

func TestP9JustEnoughRoom(t *testing.T) {
	r := rand.New(rand.NewSource(11))
	enough, short := 0, 0
	for range 1500 {
		n := 2 + r.Intn(api.MaxVars-1)
		fs := []uint64{drawn(r, n)}
		for range r.Intn(4) {
			fs = append(fs, drawn(r, n))
		}
		level := r.Intn(n - 1)
		before := nodesOf(natural(n), fs)
		need := nodesOf(swapped(natural(n), level), fs)
		if need <= before || before < 1 {
			continue
		}
		for _, room := range []int{need, need - 1} {
			m := newPair(t, n, room)
			for _, f := range fs {
				m.make(f)
			}
			if e := m.swap(level); (e == api.OK) != (room == need) {
				t.Fatalf("P9: Swap(%d), room %d, need %d: %d", level, room, need, e)
			}
			m.agrees()
			if room == need {
				enough++
				continue
			}
			short++
			// Nothing is left behind: what there is room for goes in still.
			m.make(fs[0])
			m.agrees()
		}
	}
	if enough < 100 || short < 100 {
		t.Errorf("just enough room %d times only, one node less %d times", enough, short)
	}
}

func TestP9NoRoomChangesNothing(t *testing.T) {
	m := newPair(t, 6, 6)
	h := m.make(twos(6))
	for _, level := range []int{1, 3} {
		for range 3 {
			if e := m.s.Swap(level); e != api.ErrRoom {
				t.Fatalf("P9: Swap(%d) without room = %d", level, e)
			}
			m.agrees()
		}
	}
	// Once the function is gone, any order will do.
	m.release(0)
	m.swap(1)
	m.agrees()
	if u, e := m.s.Table(h); u != 0 || e != api.ErrHandle {
		t.Errorf("P4: Table of a handle that was given back = %d, %d", u, e)
	}
	if g := m.make(twos(6)); g != 0 {
		t.Errorf("P4: eight nodes went into room for six")
	}
	m.swap(1)
	if g := m.make(twos(6)); g != 2 {
		t.Errorf("P4: Make behind the old order = %d, want 2", g)
	}
	m.agrees()
}

func TestP9WithoutNodes(t *testing.T) {
	for n := 1; n <= api.MaxVars; n++ {
		m := newPair(t, n, 1)
		for round := range 3 {
			for level := range n - 1 {
				if e := m.swap(level); e != api.OK {
					t.Fatalf("P9: Swap(%d) without a node = %d", level, e)
				}
			}
			m.sift()
			m.agrees()
			// No function at all in the first round.
			m.make(uint64(round&1) * (1<<(1<<n) - 1))
		}
		if m.s.Used() != 0 {
			t.Errorf("P7: Used = %d", m.s.Used())
		}
	}
}

func TestP9MaxLive(t *testing.T) {
	r := rand.New(rand.NewSource(12))
	for n := 1; n <= api.MaxVars; n++ {
		m := newPair(t, n, api.MaxRoom)
		for range api.MaxLive {
			m.make(drawn(r, n))
		}
		for range 4 {
			for level := range n - 1 {
				m.swap(level)
			}
			m.agrees()
			m.sift()
			m.agrees()
			m.make(1)
			m.release(r.Intn(api.MaxLive))
			m.make(drawn(r, n))
			m.agrees()
		}
		if len(m.live) != api.MaxLive {
			t.Errorf("P9: %d are live, want %d", len(m.live), api.MaxLive)
		}
	}
}

func TestP9BehindEveryOrder(t *testing.T) {
	r := rand.New(rand.NewSource(13))
	m := newPair(t, 4, api.MaxRoom)
	seen := map[[4]int]bool{}
	for range 1000 {
		if len(seen) == 24 {
			break
		}
		seen[[4]int(m.order)] = true
		a, b := m.make(drawn(r, 4)), m.make(drawn(r, 4))
		h, e := m.s.Apply(6, a, b)
		m.expects("Apply", applied(4, 6, m.table[a], m.table[b]), h, e)
		h, e = m.s.Ite(h, a, b)
		m.expects("Ite", chosen(4, m.table[m.live[2]], m.table[a], m.table[b]), h, e)
		i := r.Intn(4)
		h, e = m.s.Var(i)
		m.expects("Var", tableOf(4, func(p int) bool { return p>>i&1 == 1 }), h, e)
		m.restrict(a, r.Intn(4), true)
		m.compose(a, r.Intn(4), b)
		m.quantify(b, r.Intn(16), false)
		m.agrees()
		m.swap(r.Intn(3))
		m.agrees()
		// Given back behind another order than they were made by.
		for len(m.live) > 0 {
			m.release(r.Intn(len(m.live)))
			m.agrees()
		}
	}
	if len(seen) != 24 {
		t.Errorf("%d orders were seen only", len(seen))
	}
}

func TestP9VarBehindOtherOrders(t *testing.T) {
	for n := 2; n <= api.MaxVars; n++ {
		m := newPair(t, n, n)
		for level := range n - 1 {
			m.swap(level)
		}
		for i := range n {
			h, e := m.s.Var(i)
			m.expects("Var", tableOf(n, func(p int) bool { return p>>i&1 == 1 }), h, e)
		}
		m.agrees()
		for level := range n - 1 {
			if e := m.swap(level); e != api.OK {
				t.Errorf("P9: Swap(%d) of variables alone = %d", level, e)
			}
		}
		m.agrees()
	}
}

func TestP9ReleaseGivesRoom(t *testing.T) {
	m := newPair(t, 4, nodesOf(natural(4), []uint64{twos(4), odd(4)}))
	m.make(twos(4))
	m.make(odd(4))
	if e := m.swap(1); e != api.ErrRoom {
		t.Fatalf("P9: Swap(1) of two functions = %d", e)
	}
	m.release(1)
	if e := m.swap(1); e != api.OK {
		t.Fatalf("P9: Swap(1) of the function that is left = %d", e)
	}
	m.agrees()
}

// onlyMoves: for each move of one variable of six a function that this move
// alone betters, from the natural order. (From 0 to 1 is from 1 to 0 too.)
var onlyMoves = []struct {
	from, to int
	table    uint64
}{
	{0, 1, 0xef22e2e222e22222}, {0, 2, 0xb1b1b1b1b1b1b3f3}, {0, 3, 0xf17bf969f3063e6f},
	{0, 4, 0xc2acf2fb282e7c7}, {0, 5, 0x3d3f3f3b7d79bf7b}, {1, 2, 0xffaefeffffaefeff},
	{1, 3, 0x80008a2020000008}, {1, 4, 0x3ba11b570556e064}, {1, 5, 0x859f8344398f6b3},
	{2, 0, 0xcdc5c5c5c5c5c5f7}, {2, 3, 0xffff7fff7e777e77}, {2, 4, 0x3333f3fffff33fff},
	{2, 5, 0xeacbeacbcbdacbda}, {3, 0, 0xfeffe6cff7fffeff}, {3, 1, 0x100400040000808},
	{3, 4, 0x4100414000220000}, {3, 5, 0xf7fffff7fff7fff7}, {4, 0, 0x7070f0f9d9dfcfc},
	{4, 1, 0x7fffffffbbddbbff}, {4, 2, 0xffffe77ffff67ff5}, {4, 5, 0xdced6df8deb4034a},
	{5, 0, 0xeffb9ffffcffffff}, {5, 1, 0x888080809980c491}, {5, 2, 0xc000004911000880},
	{5, 3, 0xc04805000005408},
}

func TestP10OnlyOneMoveBetters(t *testing.T) {
	for _, c := range onlyMoves {
		order, fs := natural(6), []uint64{c.table}
		now := nodesOf(order, fs)
		target := moved(order, c.from, c.to)
		for from := range 6 {
			for to := range 6 {
				other := moved(order, from, to)
				if nodesOf(other, fs) < now != slices.Equal(other, target) {
					t.Fatalf("%x: the move from %d to %d", c.table, from, to)
				}
			}
		}
		for _, room := range []int{now, api.MaxRoom} {
			m := newPair(t, 6, room)
			m.make(c.table)
			m.sift()
			if m.s.Used() >= now {
				t.Errorf("P10: Sift of %x left %d nodes, though the move from %d to %d betters that", c.table, m.s.Used(), c.from, c.to)
			}
			m.agrees()
		}
	}
}

func TestP10NoneBetters(t *testing.T) {
	for n := 1; n <= api.MaxVars; n++ {
		for _, fs := range [][]uint64{
			{},
			{0},
			{1<<(1<<n) - 1, 0},
			{odd(n)},
			{tableOf(n, func(p int) bool { return p&1 == 1 })},
			{tableOf(n, func(p int) bool { return p>>(n-1) == 1 }), 1},
			{twos(n)},
		} {
			if oneMoveBetters(natural(n), fs) {
				t.Fatalf("a move betters %v", fs)
			}
			before := nodesOf(natural(n), fs)
			m := newPair(t, n, max(before, 1))
			for _, f := range fs {
				m.make(f)
			}
			for range 2 {
				m.sift()
				if m.s.Used() > before {
					t.Errorf("P10: Used = %d after Sift, %d before", m.s.Used(), before)
				}
				m.agrees()
			}
		}
	}
}

func TestP10EveryFunctionEveryOrder(t *testing.T) {
	for n := 1; n <= 3; n++ {
		every(t, n, func(m *pair) {
			f := m.table[m.live[0]]
			// These lead through all orders of three variables.
			for k := range 6 {
				m.swap(k & 1)
				other := newPair(t, n, max(nodesOf(m.order, []uint64{f}), 1))
				for j := 0; j <= k; j++ {
					other.swap(j & 1)
				}
				other.make(f)
				other.sift()
				other.agrees()
			}
		})
	}
}

func TestP10Drawn(t *testing.T) {
	r := rand.New(rand.NewSource(14))
	betters, none, far := 0, 0, 0
	for range 300 {
		n := 2 + r.Intn(api.MaxVars-1)
		m := newPair(t, n, api.MaxRoom)
		for range 1 + r.Intn(5) {
			m.make(drawn(r, n))
		}
		for range r.Intn(12) {
			m.swap(r.Intn(n - 1))
		}
		if r.Intn(3) == 0 {
			m.release(r.Intn(len(m.live)))
		}
		switch {
		case !oneMoveBetters(m.order, m.functions()):
			none++
		case aSwapBetters(m.order, m.functions()):
			betters++
		default:
			far++
		}
		m.sift()
		m.agrees()
		m.sift()
		m.agrees()
	}
	if betters < 30 || none < 30 || far < 5 {
		t.Errorf("bettered by a swap %d times only, by a longer move %d times, by none %d times", betters, far, none)
	}
}

// aSwapBetters: whether changing two neighbours brings fewer nodes.
func aSwapBetters(order []int, functions []uint64) bool {
	for level := range len(order) - 1 {
		if nodesOf(swapped(order, level), functions) < nodesOf(order, functions) {
			return true
		}
	}
	return false
}

func TestP10OnlyLiveFunctionsCount(t *testing.T) {
	// The order suits the second function, and not the first: what the first
	// has is not counted once it is gone.
	apart := tableOf(6, func(p int) bool { return p&(p>>3)&0b111 != 0 })
	m := newPair(t, 6, api.MaxRoom)
	for range 8 {
		m.make(twos(6))
	}
	last := m.make(apart)
	m.sift()
	for len(m.live) > 1 {
		m.release(0)
	}
	m.agrees()
	before := m.s.Used()
	if before <= 6 {
		t.Fatalf("the order %v suits the last function already", m.order)
	}
	m.sift()
	if m.s.Used() >= before {
		t.Errorf("P10: Used = %d after Sift, %d before", m.s.Used(), before)
	}
	if size, e := m.s.Size(last); size != m.s.Used() || e != api.OK {
		t.Errorf("P7: Size = %d, %d, Used = %d", size, e, m.s.Used())
	}
}

func TestP10GivesRoom(t *testing.T) {
	// By the natural order there is room for this function alone, by a better
	// one for another as well.
	apart := tableOf(6, func(p int) bool { return p&(p>>3)&0b111 != 0 })
	m := newPair(t, 6, 14)
	m.make(apart)
	if h := m.make(1); h != 0 {
		t.Fatalf("P4: a second function went in beside 14 nodes")
	}
	m.sift()
	if h := m.make(1); h != 2 {
		t.Errorf("P10: no room behind Sift, Used = %d", m.s.Used())
	}
	m.agrees()
}

func TestP2SameOrders(t *testing.T) {
	for n := 1; n <= api.MaxVars; n++ {
		one, two := newPair(t, n, 60), newPair(t, n, 60)
		noise := newPair(t, n, 60)
		r1, r2, r3 := rand.New(rand.NewSource(15)), rand.New(rand.NewSource(15)), rand.New(rand.NewSource(16))
		for i := range 200 {
			one.step(r1)
			noise.step(r3)
			noise.sift()
			two.step(r2)
			if i%20 == 19 {
				one.sift()
				two.sift()
			}
			if a, b := one.s.Order(), two.s.Order(); !slices.Equal(a, b) || one.next != two.next {
				t.Fatalf("P2: two stores after the same calls: %v and %v, %d and %d next", a, b, one.next, two.next)
			}
		}
		one.agrees()
		two.agrees()
	}
}

// written fills a list with a number, and its spare room too.
func written(list []int, with int) []int {
	all := list[:cap(list)]
	for i := range all {
		all[i] = with
	}
	return all
}

func TestP2ListsOfOrder(t *testing.T) {
	for n := 1; n <= api.MaxVars; n++ {
		m := newPair(t, n, api.MaxRoom)
		m.make(table64 & (1<<(1<<n) - 1))
		var full [][]int
		check := func() {
			t.Helper()
			m.agrees()
			for i, l := range full {
				for _, v := range l {
					if v != 100+i {
						t.Fatalf("P2: the list %d of the caller's was changed: %v", i, l)
					}
				}
			}
			list := m.s.Order()
			_ = append(list, 7, 8, 9)
			full = append(full, written(list, 100+len(full)))
			m.agrees()
		}
		check()
		for level := range n - 1 {
			m.swap(level)
			check()
			m.make(twos(n))
			check()
		}
		m.swap(n)
		check()
		m.sift()
		check()
		m.release(0)
		check()
		m.sift()
		check()
	}
}

func TestP2ListsStay(t *testing.T) {
	// A list tells the order of when it was asked for.
	m := newPair(t, 4, api.MaxRoom)
	m.make(0xbeef)
	var lists, copies [][]int
	for i := range 12 {
		l := m.s.Order()
		lists, copies = append(lists, l), append(copies, slices.Clone(l))
		if i%4 == 3 {
			m.sift()
		} else {
			m.swap(i % 3)
		}
		for k := range lists {
			if !slices.Equal(lists[k], copies[k]) {
				t.Fatalf("P2: the list %d was %v and is %v", k, copies[k], lists[k])
			}
		}
	}
	m.agrees()
}
