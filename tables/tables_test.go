package tables

import (
	"math"
	"math/bits"
	"math/rand"
	"testing"

	"choice/api"
)

func TestFull(t *testing.T) {
	for vars, want := range []uint64{1, 3, 15, 255, 65535, math.MaxUint32, math.MaxUint64, math.MaxUint64} {
		if got := Full(vars); got != want {
			t.Errorf("Full(%d) = %x, want %x", vars, got, want)
		}
	}
	if Full(-1) != 1 || Full(math.MinInt) != 1 || Full(math.MaxInt) != math.MaxUint64 {
		t.Errorf("Full beyond the bounds: %x, %x, %x", Full(-1), Full(math.MinInt), Full(math.MaxInt))
	}
}

func TestVariable(t *testing.T) {
	for vars := 1; vars <= 6; vars++ {
		for i := range vars {
			got := Variable(i, vars)
			for p := range 64 {
				if want := p < 1<<vars && p>>i&1 == 1; (got>>p&1 == 1) != want {
					t.Errorf("Variable(%d, %d) = %x: wrong at %d", i, vars, got, p)
				}
			}
		}
	}
	for _, i := range []int{math.MinInt, -1, 6, math.MaxInt} {
		if got := Variable(i, 6); got != 0 {
			t.Errorf("Variable(%d, 6) = %x", i, got)
		}
	}
}

func TestFix(t *testing.T) {
	r := rand.New(rand.NewSource(1))
	for range 100 {
		vars := 1 + r.Intn(6)
		table := r.Uint64() & Full(vars)
		for i := range vars {
			no, yes := Fix(table, i, false), Fix(table, i, true)
			for p := range 64 {
				wantNo, wantYes := uint64(0), uint64(0)
				if p < 1<<vars {
					wantNo, wantYes = table>>(p&^(1<<i))&1, table>>(p|1<<i)&1
				}
				if no>>p&1 != wantNo || yes>>p&1 != wantYes {
					t.Fatalf("Fix(%x, %d): %x and %x: wrong at %d", table, i, no, yes, p)
				}
			}
		}
	}
	for _, i := range []int{math.MinInt, -1, 6, math.MaxInt} {
		if got := Fix(90, i, true); got != 90 {
			t.Errorf("Fix(90, %d, true) = %d", i, got)
		}
	}
}

func TestJoin(t *testing.T) {
	// At places 0 to 3 these say all there is: no no, no yes, yes no, yes yes.
	for code := range 16 {
		if got := Join(code, 12, 10, 15); got != uint64(code) {
			t.Errorf("Join(%d, 12, 10, 15) = %d", code, got)
		}
	}
}

func TestChoose(t *testing.T) {
	if got := Choose(0xf0, 0xcc, 0xaa); got != 0xca {
		t.Errorf("Choose = %x, want ca", got)
	}
}

func TestPut(t *testing.T) {
	r := rand.New(rand.NewSource(3))
	for range 100 {
		vars := 1 + r.Intn(6)
		table, b := r.Uint64()&Full(vars), r.Uint64()&Full(vars)
		for i := range vars {
			got := Put(table, i, b)
			for p := range 64 {
				want := uint64(0)
				if p < 1<<vars {
					want = table >> (p&^(1<<i) | int(b>>p&1)<<i) & 1
				}
				if got>>p&1 != want {
					t.Fatalf("Put(%x, %d, %x) = %x: wrong at %d", table, i, b, got, p)
				}
			}
		}
	}
	for _, i := range []int{math.MinInt, -1, 6, math.MaxInt} {
		if got := Put(90, i, 204); got != 90 {
			t.Errorf("Put(90, %d, 204) = %d", i, got)
		}
	}
}

func TestAllAndSome(t *testing.T) {
	r := rand.New(rand.NewSource(4))
	for vars := 1; vars <= 6; vars++ {
		for set := range 1 << vars {
			table := (r.Uint64() | r.Uint64()) & Full(vars)
			if set&1 == 1 {
				table = r.Uint64() & r.Uint64() & Full(vars)
			}
			all, some := All(table, api.Set(set)), Some(table, api.Set(set))
			for p := range 64 {
				wantAll, wantSome := p < 1<<vars, false
				for q := range 1 << vars {
					if (p^q)&^set == 0 {
						wantAll = wantAll && table>>q&1 == 1
						wantSome = wantSome || table>>q&1 == 1
					}
				}
				if (all>>p&1 == 1) != wantAll || (some>>p&1 == 1) != wantSome {
					t.Fatalf("of %x by %d: %x and %x: wrong at %d", table, set, all, some, p)
				}
			}
		}
	}
}

func TestCountAndLeast(t *testing.T) {
	r := rand.New(rand.NewSource(2))
	all := []uint64{0, 1, 2, 1 << 63, math.MaxUint64, 3 << 62}
	for range 100 {
		all = append(all, r.Uint64()<<r.Intn(64))
	}
	for _, table := range all {
		if got := Count(table); got != bits.OnesCount64(table) {
			t.Errorf("Count(%x) = %d", table, got)
		}
		got, found := Least(table)
		if found != (table != 0) || found && got != bits.TrailingZeros64(table) || !found && got != 0 {
			t.Errorf("Least(%x) = %d, %v", table, got, found)
		}
	}
}
