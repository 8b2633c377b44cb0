package choice

import (
	"testing"

	"choice/api"
)

// TestP4LastHandle: no number is given twice, not even when they run out.
func TestP4LastHandle(t *testing.T) {
	s, _ := New(2, 10)
	s.Var(0)
	s.given = lastHandle - 1
	if h, e := s.Var(1); h != lastHandle || e != api.OK {
		t.Errorf("P4: Var(1) = %d, %d, want %d", h, e, uint32(lastHandle))
	}
	for range 3 {
		if h, e := s.Const(true); h != 0 || e != api.ErrMany {
			t.Errorf("P4: Const(true) after the last handle = %d, %d", h, e)
		}
		for _, text := range []string{"1", "?"} {
			if h, e := s.Import(text); h != 0 || e != api.ErrMany {
				t.Errorf("P4: Import(%q) after the last handle = %d, %d", text, h, e)
			}
		}
	}
	if u, e := s.Table(1); u != 10 || e != api.OK {
		t.Errorf("P6: Table(1) = %d, %d", u, e)
	}
	if u, e := s.Table(lastHandle); u != 12 || e != api.OK {
		t.Errorf("P6: Table of the last handle = %d, %d", u, e)
	}
}
