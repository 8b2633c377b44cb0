// Package choice: functions of yes and no: see DOC.md.
package choice

import (
	"choice/api"
	"choice/diagram"
	"choice/tables"
	"choice/texts"
)

// lastHandle is the greatest number that a handle can have.
const lastHandle = 1<<32 - 1

// Store holds functions.
type Store struct {
	vars    int
	room    int
	given   api.Handle                // the newest handle
	handles [api.MaxLive]api.Handle   // the live ones; 0, which is never one, marks a free slot
	roots   [api.MaxLive]diagram.Link // the functions of the handles, No in a free slot
	nodes   diagram.Diagram           // the nodes of the functions of all live handles, and no other
}

// New makes a store (P3).
func New(vars int, room int) (*Store, api.Errno) {
	if vars < 1 || vars > api.MaxVars || room < 1 || room > api.MaxRoom {
		return nil, api.ErrArg
	}
	return &Store{vars: vars, room: room, nodes: diagram.New(vars)}, api.OK
}

// slot finds where a handle lies, -1 if it is not live.
func (s *Store) slot(a api.Handle) int {
	for i, h := range s.handles {
		if h == a && h != 0 {
			return i
		}
	}
	return -1
}

// freeSlot finds where a new handle can lie, -1 if there are MaxLive already or
// there can be none.
func (s *Store) freeSlot() int {
	// A handle's number must not come twice, so when all were given there
	// is none to answer.
	if s.given == lastHandle {
		return -1
	}
	for i, h := range s.handles {
		if h == 0 {
			return i
		}
	}
	return -1
}

// root finds the function of a handle.
func (s *Store) root(a api.Handle) (diagram.Link, api.Errno) {
	slot := s.slot(a)
	if slot < 0 {
		return diagram.No, api.ErrHandle
	}
	return s.roots[slot], api.OK
}

// full is the table of yes everywhere.
func (s *Store) full() uint64 {
	return tables.Full(s.vars)
}

// hasVar tells whether there is a variable i.
func (s *Store) hasVar(i int) bool {
	return i >= 0 && i < s.vars
}

// add gives a new handle to the function of a table.
func (s *Store) add(table uint64) (api.Handle, api.Errno) {
	slot := s.freeSlot()
	if slot < 0 {
		return 0, api.ErrMany
	}
	grown, root := s.nodes.With(table)
	if grown.Nodes() > s.room {
		return 0, api.ErrRoom
	}
	s.nodes = grown
	s.given++
	s.handles[slot] = s.given
	s.roots[slot] = root
	return s.given, api.OK
}

// take puts other nodes in the place of the store's. The roots are where the
// functions of the handles lie there.
func (s *Store) take(nodes diagram.Diagram, roots []diagram.Link) {
	s.nodes = nodes
	copy(s.roots[:], roots)
}

// Const makes a function that is the same everywhere (P5).
func (s *Store) Const(v bool) (api.Handle, api.Errno) {
	if v {
		return s.add(s.full())
	}
	return s.add(0)
}

// Var makes the function that is one variable (P5).
func (s *Store) Var(i int) (api.Handle, api.Errno) {
	if !s.hasVar(i) {
		return 0, api.ErrArg
	}
	return s.add(tables.Variable(i, s.vars))
}

// Make makes a function of its table (P5).
func (s *Store) Make(table uint64) (api.Handle, api.Errno) {
	if table > s.full() {
		return 0, api.ErrArg
	}
	return s.add(table)
}

// Apply joins two functions (P5).
func (s *Store) Apply(code int, a api.Handle, b api.Handle) (api.Handle, api.Errno) {
	if code < 0 || code > 15 {
		return 0, api.ErrArg
	}
	x, errA := s.Table(a)
	y, errB := s.Table(b)
	if errA != api.OK || errB != api.OK {
		return 0, api.ErrHandle
	}
	return s.add(tables.Join(code, x, y, s.full()))
}

// Ite chooses between two functions by a third (P5).
func (s *Store) Ite(a api.Handle, b api.Handle, c api.Handle) (api.Handle, api.Errno) {
	x, errA := s.Table(a)
	y, errB := s.Table(b)
	z, errC := s.Table(c)
	if errA != api.OK || errB != api.OK || errC != api.OK {
		return 0, api.ErrHandle
	}
	return s.add(tables.Choose(x, y, z))
}

// Release gives a handle back (P5).
func (s *Store) Release(a api.Handle) api.Errno {
	slot := s.slot(a)
	if slot < 0 {
		return api.ErrHandle
	}
	s.handles[slot] = 0
	s.roots[slot] = diagram.No
	kept, roots := s.nodes.Keep(s.roots[:])
	s.take(kept, roots)
	return api.OK
}

// Eval tells a function at a place (P6).
func (s *Store) Eval(a api.Handle, at api.Place) (bool, api.Errno) {
	if int(at) >= 1<<uint(s.vars) {
		return false, api.ErrArg
	}
	root, err := s.root(a)
	if err != api.OK {
		return false, err
	}
	return s.nodes.Says(root, at), api.OK
}

// Table tells a function at all places (P6).
func (s *Store) Table(a api.Handle) (uint64, api.Errno) {
	root, err := s.root(a)
	if err != api.OK {
		return 0, err
	}
	return s.nodes.Table(root), api.OK
}

// Same tells whether two functions are one (P6).
func (s *Store) Same(a api.Handle, b api.Handle) (bool, api.Errno) {
	x, errA := s.root(a)
	y, errB := s.root(b)
	if errA != api.OK || errB != api.OK {
		return false, api.ErrHandle
	}
	return x == y, api.OK
}

// Support tells which variables a function hangs on (P6).
func (s *Store) Support(a api.Handle) (api.Set, api.Errno) {
	root, err := s.root(a)
	if err != api.OK {
		return 0, err
	}
	return s.nodes.Support(root), api.OK
}

// Count tells at how many places a function holds (P6).
func (s *Store) Count(a api.Handle) (int, api.Errno) {
	table, err := s.Table(a)
	if err != api.OK {
		return 0, err
	}
	return tables.Count(table), api.OK
}

// One tells the first place at which a function holds (P6).
func (s *Store) One(a api.Handle) (api.Place, api.Errno) {
	table, err := s.Table(a)
	if err != api.OK {
		return 0, err
	}
	place, found := tables.Least(table)
	if !found {
		return 0, api.ErrNone
	}
	return api.Place(place), api.OK
}

// Size tells how many nodes a function has (P7).
func (s *Store) Size(a api.Handle) (int, api.Errno) {
	root, err := s.root(a)
	if err != api.OK {
		return 0, err
	}
	return s.nodes.Size(root), api.OK
}

// Used tells how many nodes all functions have together (P7).
func (s *Store) Used() int {
	return s.nodes.Nodes()
}

// Restrict fixes a variable (P8).
func (s *Store) Restrict(a api.Handle, v int, to bool) (api.Handle, api.Errno) {
	if !s.hasVar(v) {
		return 0, api.ErrArg
	}
	x, err := s.Table(a)
	if err != api.OK {
		return 0, err
	}
	return s.add(tables.Fix(x, v, to))
}

// Compose puts a function in a variable's place (P8).
func (s *Store) Compose(a api.Handle, v int, b api.Handle) (api.Handle, api.Errno) {
	if !s.hasVar(v) {
		return 0, api.ErrArg
	}
	x, errA := s.Table(a)
	y, errB := s.Table(b)
	if errA != api.OK || errB != api.OK {
		return 0, api.ErrHandle
	}
	return s.add(tables.Put(x, v, y))
}

// Quantify asks for some, or all, values of variables (P8).
func (s *Store) Quantify(a api.Handle, set api.Set, all bool) (api.Handle, api.Errno) {
	if int(set) >= 1<<uint(s.vars) {
		return 0, api.ErrArg
	}
	x, err := s.Table(a)
	if err != api.OK {
		return 0, err
	}
	if all {
		return s.add(tables.All(x, set))
	}
	return s.add(tables.Some(x, set))
}

// Order tells the order of the variables (P9).
func (s *Store) Order() []int {
	return s.nodes.Order()
}

// Swap changes two neighbours in the order (P9).
func (s *Store) Swap(level int) api.Errno {
	if level < 0 || level > s.vars-2 {
		return api.ErrArg
	}
	nodes, roots := s.nodes.Move(level, level+1, s.roots[:])
	if nodes.Nodes() > s.room {
		return api.ErrRoom
	}
	s.take(nodes, roots)
	return api.OK
}

// Sift looks for a better order (P10).
func (s *Store) Sift() api.Errno {
	// There is room for what it finds, as that has no more nodes than now.
	nodes, roots := s.nodes.Sift(s.roots[:])
	s.take(nodes, roots)
	return api.OK
}

// Export writes a function as a text (P11).
func (s *Store) Export(a api.Handle) (string, api.Errno) {
	table, err := s.Table(a)
	if err != api.OK {
		return "", err
	}
	return texts.Write(table, s.vars), api.OK
}

// Import reads one (P12).
func (s *Store) Import(t string) (api.Handle, api.Errno) {
	table, said := texts.Read(t, s.vars)
	if said {
		return s.add(table)
	}
	// What says no function needs no room, but a store that has no handle
	// to give refuses it for that first.
	if s.freeSlot() < 0 {
		return 0, api.ErrMany
	}
	return 0, api.ErrText
}
