// Package tables reckons with the tables of functions: numbers whose bit p is
// 1 if the function says yes at place p.
package tables

import "choice/api"

// columns has the table of each variable, as if there were MaxVars of them.
var columns = [api.MaxVars]uint64{
	0xaaaaaaaaaaaaaaaa,
	0xcccccccccccccccc,
	0xf0f0f0f0f0f0f0f0,
	0xff00ff00ff00ff00,
	0xffff0000ffff0000,
	0xffffffff00000000,
}

// Full is the table of yes everywhere, among so many variables.
func Full(vars int) uint64 {
	full := uint64(1)
	for i := 0; i < vars && i < api.MaxVars; i++ {
		full |= full << (uint(1) << i)
	}
	return full
}

// Variable is the table of variable i among so many.
func Variable(i int, vars int) uint64 {
	if i < 0 || i >= api.MaxVars {
		return 0
	}
	return columns[i] & Full(vars)
}

// Fix is the table that t becomes if variable i is fixed.
func Fix(t uint64, i int, to bool) uint64 {
	if i < 0 || i >= api.MaxVars {
		return t
	}
	// Two places that differ in variable i alone are so far apart.
	apart := uint(1) << i
	if to {
		kept := t & columns[i]
		return kept | kept>>apart
	}
	kept := t &^ columns[i]
	return kept | kept<<apart
}

// Join is the table of what code says of a and b. It takes the full table, as
// code may say yes where both say no, but not beyond the last place.
func Join(code int, a uint64, b uint64, full uint64) uint64 {
	joined := uint64(0)
	if code&1 != 0 {
		joined |= full &^ (a | b)
	}
	if code&2 != 0 {
		joined |= b &^ a
	}
	if code&4 != 0 {
		joined |= a &^ b
	}
	if code&8 != 0 {
		joined |= a & b
	}
	return joined
}

// Choose is the table of b where a says yes, and of c elsewhere.
func Choose(a uint64, b uint64, c uint64) uint64 {
	return a&b | c&^a
}

// Put is the table that t becomes if variable i is what b says at each place.
func Put(t uint64, i int, b uint64) uint64 {
	yes := Fix(t, i, true)
	no := Fix(t, i, false)
	return Choose(b, yes, no)
}

// All is the table of whether t says yes for all values of the variables of a
// set. They can be taken one after the other: "for all of both" is "for all of
// the one, it holds for all of the other".
func All(t uint64, set api.Set) uint64 {
	for i := 0; i < api.MaxVars; i++ {
		if set>>uint(i)&1 == 1 {
			yes := Fix(t, i, true)
			no := Fix(t, i, false)
			t = yes & no
		}
	}
	return t
}

// Some is the table of whether t says yes for some values of the variables of
// a set.
func Some(t uint64, set api.Set) uint64 {
	for i := 0; i < api.MaxVars; i++ {
		if set>>uint(i)&1 == 1 {
			yes := Fix(t, i, true)
			no := Fix(t, i, false)
			t = yes | no
		}
	}
	return t
}

// Count tells at how many places a table says yes.
func Count(t uint64) int {
	count := 0
	for rest := t; rest != 0; rest >>= 1 {
		if rest&1 == 1 {
			count++
		}
	}
	return count
}

// Least tells the least place at which a table says yes, and whether there is
// one.
func Least(t uint64) (int, bool) {
	if t == 0 {
		return 0, false
	}
	place := 0
	for rest := t; rest&1 == 0; rest >>= 1 {
		place++
	}
	return place, true
}
