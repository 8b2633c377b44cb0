package choice_test

import (
	"fmt"
	"math"
	"math/rand"
	"slices"
	"testing"

	"choice/api"
	"choice/choice"
)

// farNumbers: far from all that is allowed, and on both sides of it.
var farNumbers = []int{math.MinInt, math.MinInt + 1, -1 << 32, -256, -64, -2, -1, 64, 256, 1 << 32, math.MaxInt - 1, math.MaxInt}

// must: the call that made a function answered this handle.
func must(t *testing.T, what string, want, h api.Handle, e api.Errno) {
	t.Helper()
	if h != want || e != api.OK {
		t.Fatalf("P4: %s = %d, %d, want %d, 0", what, h, e, want)
	}
}

// refused: the call that was to make a function answered this error.
func refused(t *testing.T, what string, want api.Errno, h api.Handle, e api.Errno) {
	t.Helper()
	if h != 0 || e != want {
		t.Errorf("P1: %s = %d, %d, want 0, %d", what, h, e, want)
	}
}

// fill makes handles of no everywhere till MaxLive are live.
func fill(t *testing.T, s *choice.Store) {
	t.Helper()
	for range api.MaxLive {
		if _, e := s.Const(false); e == api.ErrMany {
			return
		}
	}
	if _, e := s.Const(false); e != api.ErrMany {
		t.Fatalf("P4: a handle beyond MaxLive: %d", e)
	}
}

// TestExamples: the examples of the document, but for the one of room.
func TestExamples(t *testing.T) {
	m := newPair(t, 3, api.MaxRoom)
	h, e := m.s.Var(0)
	m.expects("Var(0)", 170, h, e)
	h, e = m.s.Var(2)
	m.expects("Var(2)", 240, h, e)
	h, e = m.s.Apply(8, 1, 2)
	m.expects("Apply(8, 1, 2)", 160, h, e)
	h, e = m.s.Apply(14, 1, 2)
	m.expects("Apply(14, 1, 2)", 250, h, e)
	h, e = m.s.Apply(6, 1, 2)
	m.expects("Apply(6, 1, 2)", 90, h, e)
	h, e = m.s.Make(256)
	refused(t, "Make(256)", api.ErrArg, h, e)
	h, e = m.s.Const(false)
	m.expects("Const(false)", 0, h, e)
	m.agrees()
	if m.s.Used() != 6 {
		t.Errorf("P7: Used = %d, want 6", m.s.Used())
	}
	h, e = m.s.Apply(12, 1, 2)
	m.expects("Apply(12, 1, 2)", 170, h, e)
	m.agrees()
	if m.s.Used() != 6 {
		t.Errorf("P7: Used = %d, want 6 still", m.s.Used())
	}
	examplesOfP8(t, m)
	m.release(6)
	noHandle(t, m.s, 7, 1)
	h, e = m.s.Apply(16, 7, 1)
	refused(t, "Apply(16, 7, 1)", api.ErrArg, h, e)
	examplesOfTexts(t, m)
}

// examplesOfP8: the third of the examples, in the store of the first two.
func examplesOfP8(t *testing.T, m *pair) {
	t.Helper()
	h, e := m.s.Restrict(5, 0, true)
	m.expects("Restrict(5, 0, true)", 15, h, e)
	if v, e := m.s.Eval(8, 0); !v || e != api.OK {
		t.Errorf("P8: Eval(8, 0) = %v, %d", v, e)
	}
	if set, e := m.s.Support(8); set != 4 || e != api.OK {
		t.Errorf("P8: Support(8) = %d, %d", set, e)
	}
	h, e = m.s.Compose(5, 0, 2)
	m.expects("Compose(5, 0, 2)", 0, h, e)
	h, e = m.s.Quantify(3, 1, false)
	m.expects("Quantify(3, 1, false)", 240, h, e)
	h, e = m.s.Quantify(4, 4, true)
	m.expects("Quantify(4, 4, true)", 170, h, e)
	for _, c := range [][2]api.Handle{{9, 6}, {10, 2}, {11, 1}} {
		if v, e := m.s.Same(c[0], c[1]); !v || e != api.OK {
			t.Errorf("P8: Same(%d, %d) = %v, %d", c[0], c[1], v, e)
		}
	}
	m.agrees()
}

func TestExampleOfRoom(t *testing.T) {
	m := newPair(t, 2, 2)
	h, e := m.s.Var(0)
	must(t, "Var(0)", 1, h, e)
	h, e = m.s.Var(1)
	must(t, "Var(1)", 2, h, e)
	h, e = m.s.Apply(8, 1, 2)
	refused(t, "Apply(8, 1, 2)", api.ErrRoom, h, e)
	if e := m.s.Release(2); e != api.OK {
		t.Errorf("P5: Release(2) = %d", e)
	}
	h, e = m.s.Apply(8, 1, 1)
	must(t, "Apply(8, 1, 1)", 3, h, e)
	if m.s.Used() != 1 {
		t.Errorf("P7: Used = %d, want 1", m.s.Used())
	}
	h, e = m.s.Var(1)
	must(t, "Var(1)", 4, h, e)
	if m.s.Used() != 2 {
		t.Errorf("P7: Used = %d, want 2", m.s.Used())
	}
}

func TestP1LeastError(t *testing.T) {
	// One node is all the room, and all the handles are live: Const(true)
	// shows ErrMany, and every function that hangs on two variables has no
	// room either.
	s := newStore(t, 2, 1)
	h, e := s.Var(0)
	must(t, "Var(0)", 1, h, e)
	h, e = s.Make(8)
	refused(t, "Make without room", api.ErrRoom, h, e)
	fill(t, s)
	h, e = s.Const(true)
	refused(t, "Const, all live", api.ErrMany, h, e)
	h, e = s.Var(1)
	refused(t, "Var, all live, no room", api.ErrMany, h, e)
	h, e = s.Make(8)
	refused(t, "Make, all live, no room", api.ErrMany, h, e)
	h, e = s.Apply(3, 1, 1)
	refused(t, "Apply, all live, no room", api.ErrMany, h, e)
	h, e = s.Ite(1, 2, 1)
	refused(t, "Ite, all live", api.ErrMany, h, e)
	h, e = s.Import("1n,y;0n,0;")
	refused(t, "Import, all live, no room", api.ErrMany, h, e)
	h, e = s.Import("?")
	refused(t, "Import of no text, all live", api.ErrMany, h, e)
	h, e = s.Var(2)
	refused(t, "Var of none, all live", api.ErrArg, h, e)
	h, e = s.Make(16)
	refused(t, "Make beyond the places, all live", api.ErrArg, h, e)
	for _, bad := range []api.Handle{0, 31, math.MaxUint32} {
		h, e = s.Apply(16, bad, bad)
		refused(t, "Apply by no code, of no handle, all live", api.ErrArg, h, e)
		h, e = s.Apply(-1, bad, 1)
		refused(t, "Apply by no code, of no handle, all live", api.ErrArg, h, e)
		h, e = s.Apply(8, bad, 1)
		refused(t, "Apply of no handle, all live", api.ErrHandle, h, e)
		h, e = s.Apply(8, 1, bad)
		refused(t, "Apply of no handle, all live", api.ErrHandle, h, e)
		h, e = s.Ite(bad, 1, 1)
		refused(t, "Ite of no handle, all live", api.ErrHandle, h, e)
		h, e = s.Ite(1, bad, 1)
		refused(t, "Ite of no handle, all live", api.ErrHandle, h, e)
		h, e = s.Ite(1, 1, bad)
		refused(t, "Ite of no handle, all live", api.ErrHandle, h, e)
		if v, e := s.Eval(bad, 4); v || e != api.ErrArg {
			t.Errorf("P1: Eval of no handle at no place = %v, %d", v, e)
		}
		if p, e := s.One(bad); p != 0 || e != api.ErrHandle {
			t.Errorf("P1: One of no handle = %d, %d", p, e)
		}
	}
}

// refusals makes calls that are all refused, and checks that they are.
func refusals(t *testing.T, m *pair, gone api.Handle) {
	t.Helper()
	s, last := m.s, m.live[len(m.live)-1]
	for _, i := range append([]int{m.n}, farNumbers...) {
		h, e := s.Var(i)
		refused(t, "Var of none", api.ErrArg, h, e)
		noVariable(t, s, i, last, last)
	}
	for set := 1 << m.n; set < 256; set++ {
		noSet(t, s, api.Set(set), last)
	}
	for _, level := range append([]int{m.n - 1, m.n}, farNumbers...) {
		badLevel(m, level)
	}
	for _, text := range []string{"", "2", "0n,y", "0n,0;", fmt.Sprintf("%dn,y;", m.n)} {
		h, e := s.Import(text)
		refused(t, "Import of no text", api.ErrText, h, e)
	}
	for _, code := range append([]int{16, 17, 31}, farNumbers...) {
		h, e := s.Apply(code, last, last)
		refused(t, "Apply by no code", api.ErrArg, h, e)
	}
	for bit := 1 << m.n; bit < 64; bit++ {
		h, e := s.Make(1<<bit | 1)
		refused(t, "Make beyond the places", api.ErrArg, h, e)
	}
	for at := 1 << m.n; at < 256; at++ {
		if v, e := s.Eval(last, api.Place(at)); v || e != api.ErrArg {
			t.Errorf("P6: Eval at %d = %v, %d", at, v, e)
		}
	}
	for _, bad := range []api.Handle{0, gone, m.next, m.next + 1, math.MaxUint32} {
		noHandle(t, s, bad, last)
	}
}

// noVariable hands in a number that is no variable to the calls of P8.
func noVariable(t *testing.T, s *choice.Store, v int, a, b api.Handle) {
	t.Helper()
	h, e := s.Restrict(a, v, false)
	refused(t, "Restrict of no variable", api.ErrArg, h, e)
	h, e = s.Restrict(a, v, true)
	refused(t, "Restrict of no variable", api.ErrArg, h, e)
	h, e = s.Compose(a, v, b)
	refused(t, "Compose of no variable", api.ErrArg, h, e)
}

// noSet hands in a number that is no set of variables.
func noSet(t *testing.T, s *choice.Store, set api.Set, a api.Handle) {
	t.Helper()
	h, e := s.Quantify(a, set, false)
	refused(t, "Quantify by no set", api.ErrArg, h, e)
	h, e = s.Quantify(a, set, true)
	refused(t, "Quantify by no set", api.ErrArg, h, e)
}

// noHandle hands in a number that is no live handle, everywhere.
func noHandle(t *testing.T, s *choice.Store, bad, good api.Handle) {
	t.Helper()
	h, e := s.Apply(8, bad, good)
	refused(t, "Apply of no handle", api.ErrHandle, h, e)
	h, e = s.Apply(12, good, bad)
	refused(t, "Apply of no handle", api.ErrHandle, h, e)
	h, e = s.Ite(bad, good, good)
	refused(t, "Ite of no handle", api.ErrHandle, h, e)
	h, e = s.Ite(good, bad, good)
	refused(t, "Ite of no handle", api.ErrHandle, h, e)
	h, e = s.Ite(good, good, bad)
	refused(t, "Ite of no handle", api.ErrHandle, h, e)
	noHandleOfP8(t, s, bad, good)
	if e := s.Release(bad); e != api.ErrHandle {
		t.Errorf("P4: Release(%d) = %d", bad, e)
	}
	if v, e := s.Eval(bad, 0); v || e != api.ErrHandle {
		t.Errorf("P4: Eval(%d, 0) = %v, %d", bad, v, e)
	}
	if u, e := s.Table(bad); u != 0 || e != api.ErrHandle {
		t.Errorf("P4: Table(%d) = %d, %d", bad, u, e)
	}
	if v, e := s.Same(bad, good); v || e != api.ErrHandle {
		t.Errorf("P4: Same(%d, %d) = %v, %d", bad, good, v, e)
	}
	if v, e := s.Same(good, bad); v || e != api.ErrHandle {
		t.Errorf("P4: Same(%d, %d) = %v, %d", good, bad, v, e)
	}
	if v, e := s.Same(bad, bad); v || e != api.ErrHandle {
		t.Errorf("P4: Same(%d, %d) = %v, %d", bad, bad, v, e)
	}
	if set, e := s.Support(bad); set != 0 || e != api.ErrHandle {
		t.Errorf("P4: Support(%d) = %d, %d", bad, set, e)
	}
	if c, e := s.Count(bad); c != 0 || e != api.ErrHandle {
		t.Errorf("P4: Count(%d) = %d, %d", bad, c, e)
	}
	if p, e := s.One(bad); p != 0 || e != api.ErrHandle {
		t.Errorf("P4: One(%d) = %d, %d", bad, p, e)
	}
	if n, e := s.Size(bad); n != 0 || e != api.ErrHandle {
		t.Errorf("P4: Size(%d) = %d, %d", bad, n, e)
	}
	if text, e := s.Export(bad); text != "" || e != api.ErrHandle {
		t.Errorf("P4: Export(%d) = %q, %d", bad, text, e)
	}
}

// noHandleOfP8 hands in a number that is no live handle to the calls of P8.
func noHandleOfP8(t *testing.T, s *choice.Store, bad, good api.Handle) {
	t.Helper()
	for _, flag := range []bool{false, true} {
		h, e := s.Restrict(bad, 0, flag)
		refused(t, "Restrict of no handle", api.ErrHandle, h, e)
		h, e = s.Quantify(bad, 0, flag)
		refused(t, "Quantify of no handle, by the empty set", api.ErrHandle, h, e)
		h, e = s.Quantify(bad, 1, flag)
		refused(t, "Quantify of no handle", api.ErrHandle, h, e)
	}
	h, e := s.Compose(bad, 0, good)
	refused(t, "Compose of no handle", api.ErrHandle, h, e)
	h, e = s.Compose(good, 0, bad)
	refused(t, "Compose with no handle", api.ErrHandle, h, e)
	h, e = s.Compose(bad, 0, bad)
	refused(t, "Compose of no handle with none", api.ErrHandle, h, e)
}

func TestP1RefusalsChangeNothing(t *testing.T) {
	for n := 1; n <= api.MaxVars; n++ {
		m := newPair(t, n, api.MaxRoom)
		h, e := m.s.Var(0)
		m.expects("Var(0)", 0xaaaaaaaaaaaaaaaa&(1<<(1<<n)-1), h, e)
		h, e = m.s.Const(true)
		m.expects("Const(true)", 1<<(1<<n)-1, h, e)
		h, e = m.s.Const(false)
		m.expects("Const(false)", 0, h, e)
		gone := m.live[1]
		m.release(1)
		refusals(t, m, gone)
		m.agrees()
		h, e = m.s.Const(true)
		m.expects("Const after refusals", 1<<(1<<n)-1, h, e)
		m.agrees()
	}
}

func TestP1NoRoomChangesNothing(t *testing.T) {
	// The refused functions share some nodes with what is there and would
	// bring others; none of those may stay behind.
	m := newPair(t, 3, 3)
	h, e := m.s.Make(0b11000000)
	m.expects("both of 1 and 2", 0b11000000, h, e)
	for f := range uint64(256) {
		before := len(m.live)
		h, e := m.s.Make(f)
		m.expects("Make", f, h, e)
		m.agrees()
		if len(m.live) > before {
			m.release(before)
		}
	}
}

func TestP2SameCallsSameAnswers(t *testing.T) {
	one, two := newPair(t, 4, 25), newPair(t, 4, 25)
	noise := newPair(t, 6, 100)
	r1, r2, r3 := rand.New(rand.NewSource(5)), rand.New(rand.NewSource(5)), rand.New(rand.NewSource(6))
	for range 300 {
		one.step(r1)
		noise.step(r3)
		two.step(r2)
		if len(one.live) != len(two.live) || one.next != two.next || one.s.Used() != two.s.Used() || !slices.Equal(one.s.Order(), two.s.Order()) {
			t.Fatalf("P2: two stores after the same calls: %d and %d live, %d and %d next, %d and %d used", len(one.live), len(two.live), one.next, two.next, one.s.Used(), two.s.Used())
		}
	}
	one.agrees()
	two.agrees()
}

func TestP2OrderIsTheCallers(t *testing.T) {
	s := newStore(t, 3, 10)
	first := s.Order()
	spare := first[:cap(first)]
	for i := range spare {
		spare[i] = 77
	}
	second := s.Order()
	if len(second) != 3 || second[0] != 0 || second[1] != 1 || second[2] != 2 {
		t.Errorf("P2: Order = %v after the earlier list was written into", second)
	}
	h, e := s.Make(0b11101000)
	must(t, "Make", 1, h, e)
	if n, _ := s.Size(1); n != 4 {
		t.Errorf("P2: Size = %d, want 4", n)
	}
	for _, v := range spare {
		if v != 77 {
			t.Errorf("P2: a list of the caller's was changed: %v", spare)
		}
	}
}

func TestP3Bounds(t *testing.T) {
	for _, bad := range append([]int{0, 7}, farNumbers...) {
		if s, e := choice.New(bad, 10); s != nil || e != api.ErrArg {
			t.Errorf("P3: New(%d, 10) = %v, %d", bad, s, e)
		}
		if s, e := choice.New(bad, 0); s != nil || e != api.ErrArg {
			t.Errorf("P3: New(%d, 0) = %v, %d", bad, s, e)
		}
	}
	for _, bad := range []int{math.MinInt, -4000, -1, 0, 4001, math.MaxInt} {
		if s, e := choice.New(3, bad); s != nil || e != api.ErrArg {
			t.Errorf("P3: New(3, %d) = %v, %d", bad, s, e)
		}
	}
	for n := 1; n <= api.MaxVars; n++ {
		for _, room := range []int{1, 2, 3999, api.MaxRoom} {
			m := newPair(t, n, room)
			m.agrees()
			noHandle(t, m.s, 1, 1)
			order := m.s.Order()
			if len(order) != n {
				t.Fatalf("P3: the order of %d variables: %v", n, order)
			}
			for level, v := range order {
				if v != level {
					t.Errorf("P3: the order of %d variables: %v", n, order)
				}
			}
		}
	}
}

func TestP4Numbers(t *testing.T) {
	s := newStore(t, 2, 2)
	h, e := s.Var(0)
	must(t, "Var(0)", 1, h, e)
	h, e = s.Var(0)
	must(t, "Var(0), once more", 2, h, e)
	h, e = s.Make(8)
	refused(t, "Make(8), which brings two nodes", api.ErrRoom, h, e)
	h, e = s.Var(9)
	refused(t, "Var(9)", api.ErrArg, h, e)
	h, e = s.Apply(8, 1, 2)
	must(t, "Apply(8, 1, 2), after refusals", 3, h, e)
	if e := s.Release(2); e != api.OK {
		t.Errorf("P5: Release(2) = %d", e)
	}
	noHandle(t, s, 2, 1)
	h, e = s.Ite(1, 3, 1)
	must(t, "Ite(1, 3, 1), after a Release", 4, h, e)
	noHandle(t, s, 2, 1)
	for i := 5; i <= 2000; i++ {
		if e := s.Release(api.Handle(i - 1)); e != api.OK {
			t.Fatalf("P5: Release(%d) = %d", i-1, e)
		}
		h, e = s.Const(i%2 == 0)
		must(t, "Const", api.Handle(i), h, e)
		noHandle(t, s, api.Handle(i-1), 1)
	}
}

func TestP4Many(t *testing.T) {
	m := newPair(t, 3, api.MaxRoom)
	for i := range api.MaxLive {
		h, e := m.s.Make(uint64(i))
		m.expects("Make", uint64(i), h, e)
	}
	h, e := m.s.Const(false)
	refused(t, "Const, the 31st", api.ErrMany, h, e)
	m.agrees()
	for _, k := range []int{0, 28, 13} {
		m.release(k)
		h, e = m.s.Make(200)
		m.expects("Make in a freed place", 200, h, e)
		h, e = m.s.Make(0)
		m.expects("Make, the 31st", 0, h, e)
		m.agrees()
	}
}

func TestP4JustEnoughRoom(t *testing.T) {
	r := rand.New(rand.NewSource(3))
	for n := 1; n <= api.MaxVars; n++ {
		for range 20 {
			fs := []uint64{drawn(r, n), drawn(r, n), drawn(r, n)}
			fs = append(fs, applied(n, 6, fs[0], fs[1]))
			need := nodesOf(natural(n), fs)
			for _, room := range []int{need, need - 1} {
				if room < 1 {
					continue
				}
				m := newPair(t, n, room)
				for _, f := range fs {
					h, e := m.s.Make(f)
					m.expects("Make", f, h, e)
				}
				if all := len(m.live) == len(fs); all != (room == need) {
					t.Fatalf("P4: room for %d nodes, %d are needed: all went in: %v", room, need, all)
				}
				m.agrees()
			}
		}
	}
}

func TestP4RoomOfOne(t *testing.T) {
	m := newPair(t, 1, 1)
	for _, f := range []uint64{2, 0, 3, 2, 1} {
		h, e := m.s.Make(f)
		m.expects("Make", f, h, e)
	}
	if len(m.live) != 4 {
		t.Errorf("P4: %d functions went in, want 4", len(m.live))
	}
	m.release(0)
	h, e := m.s.Make(1)
	m.expects("Make(1) while variable 0 is still there", 1, h, e)
	m.release(2)
	h, e = m.s.Make(1)
	m.expects("Make(1) after variable 0 is gone", 1, h, e)
	if len(m.live) != 3 {
		t.Errorf("P4: %d functions are there, want 3", len(m.live))
	}
	m.agrees()
}

func TestP4MuchRoom(t *testing.T) {
	r := rand.New(rand.NewSource(4))
	m := newPair(t, api.MaxVars, api.MaxRoom)
	for range api.MaxLive {
		f := r.Uint64()
		h, e := m.s.Make(f)
		m.expects("Make", f, h, e)
	}
	if len(m.live) != api.MaxLive {
		t.Errorf("P4: %d functions went in", len(m.live))
	}
	m.agrees()
}

// every makes all functions of n variables in turn and hands each to do.
func every(t *testing.T, n int, do func(m *pair)) {
	t.Helper()
	m := newPair(t, n, api.MaxRoom)
	for f := range uint64(1) << (1 << n) {
		h, e := m.s.Make(f)
		m.expects("Make", f, h, e)
		do(m)
		m.release(len(m.live) - 1)
	}
}

func TestP5ConstAndVar(t *testing.T) {
	for n := 1; n <= api.MaxVars; n++ {
		m := newPair(t, n, api.MaxRoom)
		h, e := m.s.Const(false)
		m.expects("Const(false)", 0, h, e)
		h, e = m.s.Const(true)
		m.expects("Const(true)", tableOf(n, func(int) bool { return true }), h, e)
		for i := range n {
			h, e = m.s.Var(i)
			m.expects("Var", tableOf(n, func(p int) bool { return p>>i&1 == 1 }), h, e)
		}
		m.agrees()
	}
}

func TestP5AllPlacesOfSix(t *testing.T) {
	m := newPair(t, 6, 1)
	h, e := m.s.Make(math.MaxUint64)
	m.expects("Make of all places", math.MaxUint64, h, e)
	h, e = m.s.Make(1 << 63)
	refused(t, "Make of the last place, with room for one node", api.ErrRoom, h, e)
	m.agrees()
	if c, e := m.s.Count(1); c != 64 || e != api.OK {
		t.Errorf("P6: Count = %d, %d", c, e)
	}
	six := newPair(t, 6, 6)
	h, e = six.s.Make(1 << 63)
	six.expects("Make of the last place", 1<<63, h, e)
	if p, e := six.s.One(1); p != 63 || e != api.OK {
		t.Errorf("P6: One = %d, %d", p, e)
	}
	six.agrees()
}

func TestP5EveryApply(t *testing.T) {
	for n := 1; n <= 2; n++ {
		every(t, n, func(m *pair) {
			a := m.live[0]
			for g := range uint64(1) << (1 << n) {
				h, e := m.s.Make(g)
				m.expects("Make", g, h, e)
				for code := range 16 {
					c, e := m.s.Apply(code, a, h)
					m.expects("Apply", applied(n, code, m.table[a], g), c, e)
					m.agreesOn(c)
					m.release(2)
				}
				m.release(1)
			}
		})
	}
}

func TestP5EveryIte(t *testing.T) {
	every(t, 2, func(m *pair) {
		a := m.live[0]
		for g := range uint64(16) {
			b, e := m.s.Make(g)
			m.expects("Make", g, b, e)
			for k := range uint64(16) {
				c, e := m.s.Make(k)
				m.expects("Make", k, c, e)
				h, e := m.s.Ite(a, b, c)
				m.expects("Ite", chosen(2, m.table[a], g, k), h, e)
				m.agreesOn(h)
				m.release(3)
				m.release(2)
			}
			m.release(1)
		}
	})
}

func TestP5OneHandleTwice(t *testing.T) {
	m := newPair(t, 3, api.MaxRoom)
	h, e := m.s.Make(0b10010110)
	m.expects("Make", 0b10010110, h, e)
	for code := range 16 {
		h, e := m.s.Apply(code, 1, 1)
		m.expects("Apply", applied(3, code, 0b10010110, 0b10010110), h, e)
	}
	h, e = m.s.Ite(1, 1, 1)
	m.expects("Ite", 0b10010110, h, e)
	m.agrees()
}

func TestP6P7EveryFunction(t *testing.T) {
	for n := 1; n <= 3; n++ {
		every(t, n, func(m *pair) { m.agrees() })
	}
}

func TestP6Same(t *testing.T) {
	m := newPair(t, 3, api.MaxRoom)
	for _, f := range []uint64{0, 255, 170, 85, 170, 240, 90, 90, 0, 255} {
		h, e := m.s.Make(f)
		m.expects("Make", f, h, e)
	}
	m.agrees()
}

func TestP7Sizes(t *testing.T) {
	parity := tableOf(6, func(p int) bool { return (p^p>>1^p>>2^p>>3^p>>4^p>>5)&1 == 1 })
	near := tableOf(6, func(p int) bool { return p&3 == 3 || p&12 == 12 || p&48 == 48 })
	far := tableOf(6, func(p int) bool { return p&9 == 9 || p&18 == 18 || p&36 == 36 })
	s := newStore(t, 6, api.MaxRoom)
	for i, c := range []struct {
		table uint64
		size  int
		used  int
	}{
		{0, 0, 0},
		{math.MaxUint64, 0, 0},
		{0xffffffff00000000, 1, 1},
		{parity, 11, 11},
		{near, 6, 16},
		{far, 14, 29},
	} {
		h, e := s.Make(c.table)
		must(t, "Make", api.Handle(i+1), h, e)
		if n, e := s.Size(h); n != c.size || e != api.OK {
			t.Errorf("P7: Size of %x = %d, %d, want %d", c.table, n, e, c.size)
		}
		if s.Used() != c.used {
			t.Errorf("P7: Used = %d after %x, want %d", s.Used(), c.table, c.used)
		}
	}
}

func TestP7UsedAfterRelease(t *testing.T) {
	// Just one of 0 and 2; variable 2; both of 0 and 2; just one, once more:
	// variable 2 is a node of them all.
	m := newPair(t, 3, api.MaxRoom)
	for _, f := range []uint64{90, 240, 160, 90} {
		h, e := m.s.Make(f)
		m.expects("Make", f, h, e)
	}
	for _, want := range []int{4, 4, 3, 0} {
		m.release(0)
		m.agrees()
		if m.s.Used() != want {
			t.Errorf("P7: Used = %d, want %d", m.s.Used(), want)
		}
	}
}

func TestDrawnCalls(t *testing.T) {
	r := rand.New(rand.NewSource(2))
	for n := 1; n <= api.MaxVars; n++ {
		for _, room := range []int{1, 2, 5, 9, 17, 40, 90, 200, api.MaxRoom} {
			m := newPair(t, n, room)
			for i := range 150 {
				m.step(r)
				if i%25 == 24 {
					m.agrees()
				}
			}
		}
	}
}
