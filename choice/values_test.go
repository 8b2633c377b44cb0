package choice_test

import (
	"math"
	"math/rand"
	"testing"

	"choice/api"
	"choice/choice"
)

// make puts the function of a table into the store and the model.
func (m *pair) make(table uint64) api.Handle {
	m.t.Helper()
	h, e := m.s.Make(table)
	m.expects("Make", table, h, e)
	return h
}

// checkNewest: the newest function is as the model says, and is given back.
func (m *pair) checkNewest() {
	m.t.Helper()
	newest := len(m.live) - 1
	m.agreesOn(m.live[newest])
	m.release(newest)
}

// table64 is a function of six variables in which each of them matters.
const table64 = 0x6a95f0c31b2d4e87

// flags: both answers.
var flags = []bool{false, true}

func TestP8EveryRestrict(t *testing.T) {
	for n := 1; n <= 3; n++ {
		every(t, n, func(m *pair) {
			for v := range n {
				for _, to := range flags {
					m.restrict(m.live[0], v, to)
					if set, e := m.s.Support(m.live[1]); set>>v&1 == 1 || e != api.OK {
						t.Fatalf("P8: hangs on %d, fixed to %v: %d, %d", v, to, set, e)
					}
					m.checkNewest()
				}
			}
		})
	}
}

func TestP8EveryCompose(t *testing.T) {
	for n := 1; n <= 2; n++ {
		every(t, n, func(m *pair) {
			for g := range uint64(1) << (1 << n) {
				b := m.make(g)
				for v := range n {
					m.compose(m.live[0], v, b)
					m.checkNewest()
				}
				m.release(1)
			}
		})
	}
}

func TestP8EveryQuantify(t *testing.T) {
	for n := 1; n <= 3; n++ {
		every(t, n, func(m *pair) {
			for set := range 1 << n {
				for _, all := range flags {
					m.quantify(m.live[0], set, all)
					m.checkNewest()
				}
			}
		})
	}
}

func TestP8EveryVariableAndSetOfSix(t *testing.T) {
	m := newPair(t, 6, api.MaxRoom)
	a, b := m.make(table64), m.make(0x8000000000000001)
	for v := range 6 {
		for _, to := range flags {
			m.restrict(a, v, to)
			m.checkNewest()
		}
		m.compose(a, v, b)
		m.checkNewest()
		m.compose(b, v, a)
		m.checkNewest()
	}
	for set := range 64 {
		for _, all := range flags {
			m.quantify(b, set, all)
			m.checkNewest()
			m.quantify(a, set, all)
			m.checkNewest()
		}
	}
	m.agrees()
}

func TestP8DrawnOfAllSizes(t *testing.T) {
	r := rand.New(rand.NewSource(8))
	for n := 1; n <= api.MaxVars; n++ {
		for range 40 {
			m := newPair(t, n, api.MaxRoom)
			a, b := m.make(drawn(r, n)), m.make(drawn(r, n))
			// The first and the last variable, and one in between.
			for _, v := range []int{0, n - 1, r.Intn(n)} {
				m.restrict(a, v, false)
				m.restrict(a, v, true)
				m.compose(a, v, b)
			}
			// The empty set, that of all variables, and one in between.
			for _, set := range []int{0, 1<<n - 1, r.Intn(1 << n)} {
				m.quantify(a, set, false)
				m.quantify(a, set, true)
			}
			m.agrees()
		}
	}
}

func TestP8KnownAnswers(t *testing.T) {
	// Two of three, at least.
	const most = 0b11101000
	m := newPair(t, 3, api.MaxRoom)
	a := m.make(most)
	z := m.make(240)
	for _, c := range []struct {
		what string
		call func() (api.Handle, api.Errno)
		want uint64
	}{
		{"variable 0 fixed to no", func() (api.Handle, api.Errno) { return m.s.Restrict(a, 0, false) }, 0b11000000},
		{"variable 0 fixed to yes", func() (api.Handle, api.Errno) { return m.s.Restrict(a, 0, true) }, 0b11111100},
		{"variable 2 fixed to no", func() (api.Handle, api.Errno) { return m.s.Restrict(a, 2, false) }, 0b10001000},
		{"variable 2 fixed to yes", func() (api.Handle, api.Errno) { return m.s.Restrict(a, 2, true) }, 0b11101110},
		{"variable 2 for variable 0", func() (api.Handle, api.Errno) { return m.s.Compose(a, 0, z) }, 0b11110000},
		{"for some of 0", func() (api.Handle, api.Errno) { return m.s.Quantify(a, 1, false) }, 0b11111100},
		{"for all of 0", func() (api.Handle, api.Errno) { return m.s.Quantify(a, 1, true) }, 0b11000000},
		{"for some of 0 and 2", func() (api.Handle, api.Errno) { return m.s.Quantify(a, 5, false) }, 255},
		{"for all of 1 and 2", func() (api.Handle, api.Errno) { return m.s.Quantify(a, 6, true) }, 0},
		{"for some of none", func() (api.Handle, api.Errno) { return m.s.Quantify(a, 0, false) }, most},
		{"for all of none", func() (api.Handle, api.Errno) { return m.s.Quantify(a, 0, true) }, most},
		{"for some of all", func() (api.Handle, api.Errno) { return m.s.Quantify(a, 7, false) }, 255},
		{"for all of all", func() (api.Handle, api.Errno) { return m.s.Quantify(a, 7, true) }, 0},
	} {
		h, e := c.call()
		if u, _ := m.s.Table(h); u != c.want || e != api.OK {
			t.Errorf("P8: %s: %d, %d, the table %b, want %b", c.what, h, e, u, c.want)
		}
		m.s.Release(h)
	}
}

func TestP8SameEverywhere(t *testing.T) {
	for n := 1; n <= api.MaxVars; n++ {
		m := newPair(t, n, 1)
		no, yes := m.make(0), m.make(1<<(1<<n)-1)
		for _, a := range []api.Handle{no, yes} {
			for _, flag := range flags {
				m.restrict(a, n-1, flag)
				m.quantify(a, 0, flag)
				m.quantify(a, 1<<n-1, flag)
			}
			m.compose(a, 0, no)
			m.compose(a, 0, yes)
		}
		if m.s.Used() != 0 {
			t.Errorf("P8: Used = %d, want 0", m.s.Used())
		}
		m.agrees()
	}
}

func TestP8ComposeEdges(t *testing.T) {
	for n := 1; n <= api.MaxVars; n++ {
		m := newPair(t, n, api.MaxRoom)
		a := m.make(table64 & (1<<(1<<n) - 1))
		b := m.make(0x9d3c & (1<<(1<<n) - 1))
		yes := m.make(1<<(1<<n) - 1)
		for v := range n {
			own := m.make(tableOf(n, func(p int) bool { return p>>v&1 == 1 }))
			// A function composed with itself.
			m.compose(a, v, a)
			m.checkNewest()
			m.compose(own, v, own)
			m.checkNewest()
			sameAs(m, a, v, own, a)
			sameAs(m, own, v, b, b)
			m.restrict(a, v, true)
			fixed := m.live[len(m.live)-1]
			sameAs(m, a, v, yes, fixed)
			// It does not hang on v any more.
			sameAs(m, fixed, v, b, fixed)
			m.release(len(m.live) - 1)
			m.release(len(m.live) - 1)
		}
	}
}

// sameAs: a with b in the place of variable v is the function want.
func sameAs(m *pair, a api.Handle, v int, b, want api.Handle) {
	m.t.Helper()
	h, e := m.s.Compose(a, v, b)
	if same, _ := m.s.Same(h, want); !same || e != api.OK {
		m.t.Errorf("P8: Compose(%d, %d, %d) = %d, %d is not %d", a, v, b, h, e, want)
	}
	m.expects("Compose", m.table[want], h, e)
	m.checkNewest()
}

func TestP8OneVariable(t *testing.T) {
	m := newPair(t, 1, 2)
	x := m.make(2)
	not := m.make(1)
	m.compose(x, 0, not)
	m.compose(not, 0, not)
	m.restrict(not, 0, false)
	m.restrict(not, 0, true)
	m.quantify(x, 1, false)
	m.quantify(x, 1, true)
	for k, want := range []uint64{2, 1, 1, 2, 3, 0, 3, 0} {
		if u, e := m.s.Table(m.live[k]); u != want || e != api.OK {
			t.Errorf("P8: the table of %d: %d, %d, want %d", m.live[k], u, e, want)
		}
	}
	m.agrees()
}

func TestP8OperandsStay(t *testing.T) {
	m := newPair(t, 4, api.MaxRoom)
	a, b := m.make(0x8e53), m.make(0x35c9)
	for v := range 4 {
		m.restrict(a, v, true)
		m.compose(a, v, b)
		m.quantify(a, 1<<v, true)
		m.agrees()
	}
	m.release(1)
	m.release(0)
	m.agrees()
}

func TestP8Many(t *testing.T) {
	m := newPair(t, 3, 5)
	a := m.make(0b10010110) // five nodes
	for len(m.live) < api.MaxLive {
		m.quantify(a, 0, true)
	}
	// In turn: a new function that is there, and one that has no room.
	for range 2 {
		for _, v := range []int{0, 1, 2} {
			h, e := m.s.Restrict(a, v, false)
			refused(t, "Restrict, all live", api.ErrMany, h, e)
			h, e = m.s.Compose(a, v, a)
			refused(t, "Compose, all live", api.ErrMany, h, e)
			h, e = m.s.Quantify(a, api.Set(1<<v), true)
			refused(t, "Quantify, all live", api.ErrMany, h, e)
		}
		m.agrees()
		m.release(api.MaxLive - 1)
		m.restrict(a, 1, false)
		m.restrict(a, 0, false)
	}
	if len(m.live) != api.MaxLive {
		t.Errorf("P8: %d are live, want %d", len(m.live), api.MaxLive)
	}
	m.agrees()
}

func TestP8JustEnoughRoom(t *testing.T) {
	r := rand.New(rand.NewSource(9))
	// How often each call found a room that was one node too little.
	short := [3]int{}
	for range 600 {
		n := 1 + r.Intn(api.MaxVars)
		f, g := drawn(r, n), drawn(r, n)
		v, set, flag := r.Intn(n), r.Intn(1<<n), r.Intn(2) == 1
		results := [3]uint64{restricted(n, f, v, flag), composed(n, f, v, g), quantified(n, f, set, flag)}
		for k, result := range results {
			before := nodesOf(natural(n), []uint64{f, g})
			need := nodesOf(natural(n), []uint64{f, g, result})
			for _, room := range []int{need, need - 1} {
				if room < before || room < 1 {
					continue
				}
				m := newPair(t, n, room)
				a, b := m.make(f), m.make(g)
				switch k {
				case 0:
					m.restrict(a, v, flag)
				case 1:
					m.compose(a, v, b)
				default:
					m.quantify(a, set, flag)
				}
				if room < need {
					short[k]++
				}
				if made := len(m.live) == 3; made != (room == need) {
					t.Fatalf("P8: call %d: room %d, need %d, made: %v", k, room, need, made)
				}
				m.agrees()
			}
		}
	}
	for k, times := range short {
		if times < 20 {
			t.Errorf("call %d was tried with one node too little %d times only", k, times)
		}
	}
}

func TestP8RoomThatReleaseGives(t *testing.T) {
	m := newPair(t, 3, 6)
	odd := m.make(0b10010110) // five nodes
	m.make(170)               // and one more
	m.restrict(odd, 1, false) // just one of 0 and 2: one node more
	if len(m.live) != 2 {
		t.Fatalf("P8: a seventh node went into room for six")
	}
	m.release(1)
	m.restrict(odd, 1, false)
	if len(m.live) != 2 {
		t.Errorf("P8: a sixth node did not go into room for six")
	}
	m.agrees()
}

func TestP8LeastError(t *testing.T) {
	// All the room is for the five nodes of this function, and what is made
	// of it by variable 1 or 2 brings others.
	const five = 0b10101001
	s := newStore(t, 3, 5)
	h, e := s.Make(five)
	must(t, "Make", 1, h, e)
	h, e = s.Const(false)
	must(t, "Const", 2, h, e)
	if e := s.Release(2); e != api.OK {
		t.Fatalf("P5: Release(2) = %d", e)
	}
	// First with handles to spare, then with all of them live: no room, no
	// handle, no variable or set, one on top of the other.
	for _, want := range []api.Errno{api.ErrRoom, api.ErrMany} {
		for v := 1; v <= 2; v++ {
			noRoom(t, s, want, v)
		}
		for _, bad := range []api.Handle{0, 2, 99, math.MaxUint32} {
			noHandleOfP8(t, s, bad, 1)
			for _, v := range append([]int{3, 6}, farNumbers...) {
				noVariable(t, s, v, bad, 1)
				noVariable(t, s, v, 1, bad)
				noVariable(t, s, v, bad, bad)
				noVariable(t, s, v, 1, 1)
			}
			for set := 8; set < 256; set++ {
				noSet(t, s, api.Set(set), bad)
				noSet(t, s, api.Set(set), 1)
			}
		}
		fill(t, s)
	}
	if u, e := s.Table(1); u != five || e != api.OK || s.Used() != 5 {
		t.Errorf("P1: after refusals: the table %b, %d, Used %d", u, e, s.Used())
	}
}

// noRoom asks for functions that have no room, made of function 1.
func noRoom(t *testing.T, s *choice.Store, want api.Errno, v int) {
	t.Helper()
	for _, flag := range flags {
		h, e := s.Restrict(1, v, flag)
		refused(t, "Restrict without room", want, h, e)
		h, e = s.Quantify(1, api.Set(1<<v), flag)
		refused(t, "Quantify without room", want, h, e)
	}
	h, e := s.Compose(1, v, 1)
	refused(t, "Compose without room", want, h, e)
}

func TestP8VariablesOfOtherStores(t *testing.T) {
	// What is a variable or a set of a greater store is none of a smaller.
	for n := 1; n <= api.MaxVars; n++ {
		m := newPair(t, n, api.MaxRoom)
		a := m.make(1)
		for v := n; v < 64; v++ {
			noVariable(t, m.s, v, a, a)
		}
		for v := -64; v < 0; v++ {
			noVariable(t, m.s, v, a, a)
		}
		for set := 1 << n; set < 256; set++ {
			noSet(t, m.s, api.Set(set), a)
		}
		m.restrict(a, n-1, false)
		m.agrees()
	}
}
