/-
  Own work: Support and One of a store's functions, by their tables (walks over contracts, and plain mathematics).
-/
import Derived.Test.YthoodkbdpnffdaaDoorSupS
import Derived.Test.YthoodkbdpnffdaaDoorFnW
namespace Go.Proofs.YthoodkbdpnffdaaDoor
open Go.RowKit
open Cho (U64 Tab full col Nd Red)

theorem fn_support (B : Nat) (w0 w : World) (s n i : Nat) (fs : List Nat) (a : Int) (h : Fn B w0 w s n fs) (hi : i < fs.length) (ha : a = i + 1) :
    Calls Tryd.prog 22 #[.pointer (some ⟨s, 0, none⟩), .int .u32 a] w fun e w' => e = .returned (.tuple #[.int .u8 (hg fs[i] n (2 ^ n) : Nat), .int .i64 0]) ∧ Fn B w0 w' s n fs := by
  obtain ⟨st, hst, hfew, rfl, hall⟩ := h.ex
  obtain ⟨li, ei⟩ := hall i hi
  have := support_ok s (i + 1) st w hst li
  rw [show (((i + 1 : Nat)) : Int) = a from by omega, sup_eq hst.inv li, ei] at this
  refine this.mono ?_
  rintro e w' ⟨rfl, hb⟩
  exact ⟨rfl, h.below hb⟩

/-- What One answers: the place; the error. -/
def oneP (t : Nat) : Nat := if t = 0 then 0 else Cho.least t 64
def oneE (t : Nat) : Int := if t = 0 then 5 else 0
theorem least_lt {t : Nat} (ht : U64 t) (h0 : t ≠ 0) : Cho.least t 64 < 64 := by
  obtain ⟨p, hp, hb⟩ := Cho.nz_bit ht h0
  obtain ⟨h1, h2, _⟩ := Cho.least_spec t 64
  by_cases h : Cho.least t 64 < 64
  · exact h
  · have := h2 p (by omega); rw [hb] at this; cases this
theorem fn_one (B : Nat) (w0 w : World) (s n i : Nat) (fs : List Nat) (a : Int) (h : Fn B w0 w s n fs) (hi : i < fs.length) (ha : a = i + 1) :
    Calls Tryd.prog 21 #[.pointer (some ⟨s, 0, none⟩), .int .u32 a] w fun e w' => e = .returned (.tuple #[.int .u8 (oneP fs[i] : Nat), .int .i64 (oneE fs[i])]) ∧ Fn B w0 w' s n fs := by
  have ht := h.tab i hi
  have h6 := h.n6
  obtain ⟨st, hst, hfew, rfl, hall⟩ := h.ex
  obtain ⟨li, ei⟩ := hall i hi
  by_cases h0 : fs[i] = 0
  · have := one_none s (i + 1) st w hst li (by rw [ei, h0])
    rw [show (((i + 1 : Nat)) : Int) = a from by omega] at this
    refine this.mono ?_
    rintro e w' ⟨rfl, hb⟩
    exact ⟨by simp [oneP, oneE, h0], h.below hb⟩
  · have := one_ok s (i + 1) st w hst li (by rw [ei]; exact h0) (by rw [ei]; exact least_lt (ht.u64 h6) h0)
    rw [show (((i + 1 : Nat)) : Int) = a from by omega, ei] at this
    refine this.mono ?_
    rintro e w' ⟨rfl, hb⟩
    exact ⟨by simp [oneP, oneE, h0], h.below hb⟩
end Go.Proofs.YthoodkbdpnffdaaDoor
