package choice_test

import (
	"fmt"
	"math/rand"
	"slices"
	"testing"

	"choice/api"
	"choice/choice"
)

// The model follows the document's words place by place, and shares nothing
// with the program.

// says: bit p of a table.
func says(table uint64, p int) bool { return table>>p&1 == 1 }

// tableOf: the table of what yes tells of each place.
func tableOf(n int, yes func(p int) bool) uint64 {
	var table uint64
	for p := range 1 << n {
		if yes(p) {
			table |= 1 << p
		}
	}
	return table
}

func applied(n, code int, a, b uint64) uint64 {
	return tableOf(n, func(p int) bool {
		x, y := 0, 0
		if says(a, p) {
			x = 1
		}
		if says(b, p) {
			y = 1
		}
		return code>>(2*x+y)&1 == 1
	})
}

func chosen(n int, a, b, c uint64) uint64 {
	return tableOf(n, func(p int) bool {
		if says(a, p) {
			return says(b, p)
		}
		return says(c, p)
	})
}

func restricted(n int, a uint64, v int, to bool) uint64 {
	return tableOf(n, func(p int) bool {
		if to {
			return says(a, p|1<<v)
		}
		return says(a, p&^(1<<v))
	})
}

func composed(n int, a uint64, v int, b uint64) uint64 {
	return tableOf(n, func(p int) bool {
		if says(b, p) {
			return says(a, p|1<<v)
		}
		return says(a, p&^(1<<v))
	})
}

func quantified(n int, a uint64, set int, all bool) uint64 {
	return tableOf(n, func(p int) bool {
		for q := range 1 << n {
			if (p^q)&^set == 0 && says(a, q) != all {
				return !all
			}
		}
		return all
	})
}

func supportOf(n int, table uint64) api.Set {
	var set api.Set
	for i := range n {
		for p := range 1 << n {
			if says(table, p) != says(table, p^1<<i) {
				set |= 1 << i
			}
		}
	}
	return set
}

// nodesOf: the nodes of some functions together, by an order.
func nodesOf(order []int, functions []uint64) int {
	n := len(order)
	everywhere := tableOf(n, func(int) bool { return true })
	nodes := map[uint64]bool{}
	// What the functions become if the variables of the first levels are
	// fixed in every way: of no level, then of one more each time.
	become := map[uint64]bool{}
	for _, f := range functions {
		become[f] = true
	}
	for k := 0; k <= n; k++ {
		next := map[uint64]bool{}
		for g := range become {
			if g == 0 || g == everywhere {
				continue
			}
			nodes[g] = true
			if k < n {
				next[restricted(n, g, order[k], false)] = true
				next[restricted(n, g, order[k], true)] = true
			}
		}
		become = next
	}
	return len(nodes)
}

func natural(n int) []int {
	return []int{0, 1, 2, 3, 4, 5}[:n]
}

// moved: an order after the variable of one level went to another.
func moved(order []int, from, to int) []int {
	v := order[from]
	others := slices.Delete(slices.Clone(order), from, from+1)
	return slices.Insert(others, to, v)
}

// swapped: an order after two neighbours changed places.
func swapped(order []int, level int) []int {
	other := slices.Clone(order)
	other[level], other[level+1] = order[level+1], order[level]
	return other
}

// oneMoveBetters: whether moving one variable brings fewer nodes.
func oneMoveBetters(order []int, functions []uint64) bool {
	now := nodesOf(order, functions)
	for from := range order {
		for to := range order {
			if nodesOf(moved(order, from, to), functions) < now {
				return true
			}
		}
	}
	return false
}

// pair: a store beside what the document says of it.
type pair struct {
	t     *testing.T
	s     *choice.Store
	n     int
	room  int
	order []int
	next  api.Handle
	live  []api.Handle
	table map[api.Handle]uint64
}

func newPair(t *testing.T, n, room int) *pair {
	t.Helper()
	return &pair{t: t, s: newStore(t, n, room), n: n, room: room, order: natural(n), next: 1, table: map[api.Handle]uint64{}}
}

func newStore(t *testing.T, n, room int) *choice.Store {
	t.Helper()
	s, e := choice.New(n, room)
	if s == nil || e != api.OK {
		t.Fatalf("P3: New(%d, %d) = %v, %d", n, room, s, e)
	}
	return s
}

func (m *pair) functions() []uint64 {
	var fs []uint64
	for _, h := range m.live {
		fs = append(fs, m.table[h])
	}
	return fs
}

// expects: the answer of a call that makes the function of a table and whose
// numbers and handles are right.
func (m *pair) expects(what string, table uint64, h api.Handle, e api.Errno) {
	m.t.Helper()
	want := api.OK
	if len(m.live) == api.MaxLive {
		want = api.ErrMany
	} else if nodesOf(m.order, append(m.functions(), table)) > m.room {
		want = api.ErrRoom
	}
	if want != api.OK {
		if h != 0 || e != want {
			m.t.Fatalf("P4: %s = %d, %d, want 0, %d", what, h, e, want)
		}
		return
	}
	if h != m.next || e != api.OK {
		m.t.Fatalf("P4: %s = %d, %d, want %d, 0", what, h, e, m.next)
	}
	m.next++
	m.live = append(m.live, h)
	m.table[h] = table
}

// release gives back the k-th of the live handles.
func (m *pair) release(k int) {
	m.t.Helper()
	h := m.live[k]
	if e := m.s.Release(h); e != api.OK {
		m.t.Fatalf("P5: Release(%d) = %d", h, e)
	}
	m.live = append(m.live[:k:k], m.live[k+1:]...)
	delete(m.table, h)
}

// agrees: all that the store can be asked is as the document says.
func (m *pair) agrees() {
	m.t.Helper()
	for _, h := range m.live {
		m.agreesOn(h)
	}
	if got, want := m.s.Used(), nodesOf(m.order, m.functions()); got != want {
		m.t.Fatalf("P7: Used = %d, want %d by the order %v", got, want, m.order)
	}
	if got := m.s.Order(); !slices.Equal(got, m.order) {
		m.t.Fatalf("P9: Order = %v, want %v", got, m.order)
	}
}

func (m *pair) agreesOn(h api.Handle) {
	m.t.Helper()
	f := m.table[h]
	count, one := 0, -1
	for p := range 1 << m.n {
		v, e := m.s.Eval(h, api.Place(p))
		if v != says(f, p) || e != api.OK {
			m.t.Fatalf("P6: Eval(%d, %d) = %v, %d; its table is %d", h, p, v, e, f)
		}
		if says(f, p) {
			count++
			if one < 0 {
				one = p
			}
		}
	}
	if u, e := m.s.Table(h); u != f || e != api.OK {
		m.t.Fatalf("P6: Table(%d) = %d, %d, want %d", h, u, e, f)
	}
	if c, e := m.s.Count(h); c != count || e != api.OK {
		m.t.Fatalf("P6: Count(%d) = %d, %d, want %d", h, c, e, count)
	}
	p, e := m.s.One(h)
	if one < 0 && (p != 0 || e != api.ErrNone) || one >= 0 && (int(p) != one || e != api.OK) {
		m.t.Fatalf("P6: One(%d) = %d, %d, want %d", h, p, e, one)
	}
	if set, e := m.s.Support(h); set != supportOf(m.n, f) || e != api.OK {
		m.t.Fatalf("P6: Support(%d) = %d, %d, want %d", h, set, e, supportOf(m.n, f))
	}
	want := nodesOf(m.order, []uint64{f})
	if size, e := m.s.Size(h); size != want || e != api.OK {
		m.t.Fatalf("P7: Size(%d) = %d, %d, want %d by the order %v", h, size, e, want, m.order)
	}
	m.write(h)
	for _, other := range m.live {
		if v, e := m.s.Same(h, other); v != (f == m.table[other]) || e != api.OK {
			m.t.Fatalf("P6: Same(%d, %d) = %v, %d", h, other, v, e)
		}
	}
}

// drawn: a table, few or many of whose bits are 1, or with a pattern.
func drawn(r *rand.Rand, n int) uint64 {
	table := r.Uint64()
	switch r.Intn(4) {
	case 0:
		table &= r.Uint64() & r.Uint64()
	case 1:
		table |= r.Uint64() | r.Uint64()
	case 2:
		table = (table & 0xff) * 0x0101010101010101
	}
	return table & (1<<(1<<n) - 1)
}

// step makes one drawn call that changes the store.
func (m *pair) step(r *rand.Rand) {
	m.t.Helper()
	k := r.Intn(24)
	if len(m.live) == 0 && k > 3 && k < 18 {
		k = 0
	}
	some := func() api.Handle { return m.live[r.Intn(len(m.live))] }
	switch {
	case k <= 1:
		f := drawn(r, m.n)
		h, e := m.s.Make(f)
		m.expects("Make", f, h, e)
	case k == 2:
		i := r.Intn(m.n)
		h, e := m.s.Var(i)
		m.expects("Var", tableOf(m.n, func(p int) bool { return p>>i&1 == 1 }), h, e)
	case k == 3:
		v := r.Intn(2) == 1
		h, e := m.s.Const(v)
		m.expects("Const", tableOf(m.n, func(int) bool { return v }), h, e)
	case k <= 7:
		m.release(r.Intn(len(m.live)))
	case k <= 10:
		code, a, b := r.Intn(16), some(), some()
		h, e := m.s.Apply(code, a, b)
		m.expects("Apply", applied(m.n, code, m.table[a], m.table[b]), h, e)
	case k <= 13:
		m.stepOfP8(r, some(), some())
	case k <= 17:
		a, b, c := some(), some(), some()
		h, e := m.s.Ite(a, b, c)
		m.expects("Ite", chosen(m.n, m.table[a], m.table[b], m.table[c]), h, e)
	case k <= 20:
		m.swap(r.Intn(m.n+1) - 1)
	case k == 21:
		m.sift()
	default:
		m.stepOfTexts(r)
	}
}

// stepOfTexts reads a text, which may say no function.
func (m *pair) stepOfTexts(r *rand.Rand) {
	m.t.Helper()
	text := drawnText(r, m.n, 1+r.Intn(20))
	if r.Intn(3) == 0 {
		text = spoiled(r, text)
	}
	m.read(text)
}

// swap changes two neighbours in the order, if that can be, and tells what the
// answer had to be.
func (m *pair) swap(level int) api.Errno {
	m.t.Helper()
	want := api.OK
	if level < 0 || level > m.n-2 {
		want = api.ErrArg
	} else if nodesOf(swapped(m.order, level), m.functions()) > m.room {
		want = api.ErrRoom
	}
	if e := m.s.Swap(level); e != want {
		m.t.Fatalf("P9: Swap(%d) = %d, want %d; the order %v", level, e, want, m.order)
	}
	if want == api.OK {
		m.order = swapped(m.order, level)
	}
	if got := m.s.Order(); !slices.Equal(got, m.order) {
		m.t.Fatalf("P9: Order = %v after Swap(%d) = %d, want %v", got, level, want, m.order)
	}
	return want
}

// sift takes over the order that the store finds, if it is a right one.
func (m *pair) sift() {
	m.t.Helper()
	before := nodesOf(m.order, m.functions())
	if e := m.s.Sift(); e != api.OK {
		m.t.Fatalf("P10: Sift = %d", e)
	}
	found := m.s.Order()
	if sorted := slices.Sorted(slices.Values(found)); !slices.Equal(sorted, natural(m.n)) {
		m.t.Fatalf("P10: Sift found %v, which is no order of %d variables", found, m.n)
	}
	after := nodesOf(found, m.functions())
	if after > before {
		m.t.Fatalf("P10: Sift from %v, %d nodes, to %v, %d nodes", m.order, before, found, after)
	}
	if after == before && oneMoveBetters(m.order, m.functions()) {
		m.t.Fatalf("P10: Sift went from %v to %v and left %d nodes, though one move betters that", m.order, found, after)
	}
	m.order = found
	if m.s.Used() != after {
		m.t.Fatalf("P10: Used = %d after Sift, want %d by the order %v", m.s.Used(), after, found)
	}
}

// stepOfP8 makes one of the calls of P8 on these handles.
func (m *pair) stepOfP8(r *rand.Rand, a, b api.Handle) {
	m.t.Helper()
	v, set, flag := r.Intn(m.n), r.Intn(1<<m.n), r.Intn(2) == 1
	switch r.Intn(3) {
	case 0:
		m.restrict(a, v, flag)
	case 1:
		m.compose(a, v, b)
	default:
		m.quantify(a, set, flag)
	}
}

func (m *pair) restrict(a api.Handle, v int, to bool) {
	m.t.Helper()
	h, e := m.s.Restrict(a, v, to)
	m.expects(fmt.Sprintf("Restrict(%d, %d, %v)", a, v, to), restricted(m.n, m.table[a], v, to), h, e)
}

func (m *pair) compose(a api.Handle, v int, b api.Handle) {
	m.t.Helper()
	h, e := m.s.Compose(a, v, b)
	m.expects(fmt.Sprintf("Compose(%d, %d, %d)", a, v, b), composed(m.n, m.table[a], v, m.table[b]), h, e)
}

func (m *pair) quantify(a api.Handle, set int, all bool) {
	m.t.Helper()
	h, e := m.s.Quantify(a, api.Set(set), all)
	m.expects(fmt.Sprintf("Quantify(%d, %d, %v)", a, set, all), quantified(m.n, m.table[a], set, all), h, e)
}
