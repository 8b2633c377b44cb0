/-
  Own work: the document's answer: the questions (walks).
-/
import Derived.Test.YthoodkbdpnffdabGreatDoorRefL
namespace Go.Proofs.YthoodkbdpnffdabGreatDoor
open Go.RowKit
open Cho (U64 Tab full col)

set_option maxHeartbeats 1000000 in
theorem rtable_some (B y a f : Nat) (r : RSt) (rv ov : Value) (w : World) (hr : RefAt B w y r rv ov) (ha : r.get a = some f) :
    Calls Tryz.prog 35 #[.pointer (some ⟨y, 0, none⟩), .int .u32 a] w fun e w' => e = .returned (.tuple #[.int .u64 (f : Nat), .int .i64 0]) ∧ Below w.heap.size w w' := by
  have HR : Hid (RefAt B w y r rv ov) := hr
  have HA : Hid (r.get a = some f) := ha
  clear hr ha
  go_enter Tryz.func35, Tryz.ntmps35
  go_wp2_with fail
  refine (rfind_some B y a f r _ _ _ HR.out HA.out).mono ?_
  rintro e w1 ⟨⟨j, hj, rfl⟩, rfl⟩
  go_wp2_with fail
  refine (rof_get B y a f r _ _ _ HR.out HA.out).mono ?_
  rintro e w2 ⟨rfl, q, rfl⟩
  have B3 : Hid (Below w1.heap.size w1 (w1.drewN q)) := below_dr _ _
  generalize w1.drewN q = w3 at *
  go_wp2_with fail
  go_ret2
  exact ⟨rfl, B3.out⟩

set_option maxHeartbeats 1000000 in
theorem rtable_none (B y a : Nat) (r : RSt) (rv ov : Value) (w : World) (hr : RefAt B w y r rv ov) (ha : r.get a = none) :
    Calls Tryz.prog 35 #[.pointer (some ⟨y, 0, none⟩), .int .u32 a] w fun e w' => e = .returned (.tuple #[.int .u64 0, .int .i64 2]) ∧ Below w.heap.size w w' := by
  have HR : Hid (RefAt B w y r rv ov) := hr
  have HN : Hid (a ∉ r.hs) := get_none ha
  clear hr ha
  go_enter Tryz.func35, Tryz.ntmps35
  go_wp2_with fail
  refine (rfind_no B y a r _ _ _ HR.out HN.out).mono ?_
  rintro e w1 ⟨rfl, rfl⟩
  go_wp2_with fail
  go_ret2
  exact ⟨rfl, Below.refl _ _⟩

set_option maxHeartbeats 1000000 in
theorem rsupport_none (B y a : Nat) (r : RSt) (rv ov : Value) (w : World) (hr : RefAt B w y r rv ov) (ha : r.get a = none) :
    Calls Tryz.prog 39 #[.pointer (some ⟨y, 0, none⟩), .int .u32 a] w fun e w' => e = .returned (.tuple #[.int .u8 0, .int .i64 2]) ∧ Below w.heap.size w w' := by
  have HR : Hid (RefAt B w y r rv ov) := hr
  have HN : Hid (a ∉ r.hs) := get_none ha
  clear hr ha
  go_enter Tryz.func39, Tryz.ntmps39
  go_wp2_with fail
  refine (rfind_no B y a r _ _ _ HR.out HN.out).mono ?_
  rintro e w1 ⟨rfl, rfl⟩
  go_wp2_with fail
  go_ret2
  exact ⟨rfl, Below.refl _ _⟩

set_option maxHeartbeats 1000000 in
theorem rcount_none (B y a : Nat) (r : RSt) (rv ov : Value) (w : World) (hr : RefAt B w y r rv ov) (ha : r.get a = none) :
    Calls Tryz.prog 41 #[.pointer (some ⟨y, 0, none⟩), .int .u32 a] w fun e w' => e = .returned (.tuple #[.int .i64 0, .int .i64 2]) ∧ Below w.heap.size w w' := by
  have HR : Hid (RefAt B w y r rv ov) := hr
  have HN : Hid (a ∉ r.hs) := get_none ha
  clear hr ha
  go_enter Tryz.func41, Tryz.ntmps41
  go_wp2_with fail
  refine (rfind_no B y a r _ _ _ HR.out HN.out).mono ?_
  rintro e w1 ⟨rfl, rfl⟩
  go_wp2_with fail
  go_ret2
  exact ⟨rfl, Below.refl _ _⟩

set_option maxHeartbeats 1000000 in
theorem rone_none (B y a : Nat) (r : RSt) (rv ov : Value) (w : World) (hr : RefAt B w y r rv ov) (ha : r.get a = none) :
    Calls Tryz.prog 43 #[.pointer (some ⟨y, 0, none⟩), .int .u32 a] w fun e w' => e = .returned (.tuple #[.int .u8 0, .int .i64 2]) ∧ Below w.heap.size w w' := by
  have HR : Hid (RefAt B w y r rv ov) := hr
  have HN : Hid (a ∉ r.hs) := get_none ha
  clear hr ha
  go_enter Tryz.func43, Tryz.ntmps43
  go_wp2_with fail
  refine (rfind_no B y a r _ _ _ HR.out HN.out).mono ?_
  rintro e w1 ⟨rfl, rfl⟩
  go_wp2_with fail
  go_ret2
  exact ⟨rfl, Below.refl _ _⟩

set_option maxHeartbeats 1000000 in
theorem rsize_none (B y a : Nat) (r : RSt) (rv ov : Value) (w : World) (hr : RefAt B w y r rv ov) (ha : r.get a = none) :
    Calls Tryz.prog 45 #[.pointer (some ⟨y, 0, none⟩), .int .u32 a] w fun e w' => e = .returned (.tuple #[.int .i64 0, .int .i64 2]) ∧ Below w.heap.size w w' := by
  have HR : Hid (RefAt B w y r rv ov) := hr
  have HN : Hid (a ∉ r.hs) := get_none ha
  clear hr ha
  go_enter Tryz.func45, Tryz.ntmps45
  go_wp2_with fail
  refine (rfind_no B y a r _ _ _ HR.out HN.out).mono ?_
  rintro e w1 ⟨rfl, rfl⟩
  go_wp2_with fail
  go_ret2
  exact ⟨rfl, Below.refl _ _⟩

set_option maxHeartbeats 1000000 in
theorem reval_arg (B y a p : Nat) (r : RSt) (rv ov : Value) (w : World) (hr : RefAt B w y r rv ov) (hp8 : p < 256) (hp : ¬ p < 2 ^ r.n) :
    Calls Tryz.prog 33 #[.pointer (some ⟨y, 0, none⟩), .int .u32 a, .int .u8 p] w fun e w' => e = .returned (.tuple #[.bool false, .int .i64 1]) ∧ Below w.heap.size w w' := by
  have hn := hr.ok.n6
  have h64 := Cho.two_pow_le r.n hn
  have HPL : Hid (Calls Tryz.prog 72 #[.pointer (some ⟨y, 0, none⟩)] w fun e w' => e = .returned (.int .i64 ((2 ^ r.n : Nat) : Nat)) ∧ w' = w) := rplaces_calls y r.n w hr.c0 hn
  clear hr
  generalize 2 ^ r.n = N at *
  go_enter Tryz.func33, Tryz.ntmps33
  go_wp2_with fail
  refine HPL.out.mono ?_
  rintro e w0 ⟨rfl, rfl⟩
  go_wp2_with fail
  go_ret2
  exact ⟨rfl, Below.refl _ _⟩
set_option maxHeartbeats 1000000 in
theorem reval_none (B y a p : Nat) (r : RSt) (rv ov : Value) (w : World) (hr : RefAt B w y r rv ov) (hp8 : p < 256) (hp : p < 2 ^ r.n) (ha : r.get a = none) :
    Calls Tryz.prog 33 #[.pointer (some ⟨y, 0, none⟩), .int .u32 a, .int .u8 p] w fun e w' => e = .returned (.tuple #[.bool false, .int .i64 2]) ∧ Below w.heap.size w w' := by
  have hn := hr.ok.n6
  have h64 := Cho.two_pow_le r.n hn
  have HR : Hid (RefAt B w y r rv ov) := hr
  have HN : Hid (a ∉ r.hs) := get_none ha
  have HPL : Hid (Calls Tryz.prog 72 #[.pointer (some ⟨y, 0, none⟩)] w fun e w' => e = .returned (.int .i64 ((2 ^ r.n : Nat) : Nat)) ∧ w' = w) := rplaces_calls y r.n w hr.c0 hn
  clear hr ha
  generalize 2 ^ r.n = N at *
  go_enter Tryz.func33, Tryz.ntmps33
  go_wp2_with fail
  refine HPL.out.mono ?_
  rintro e w0 ⟨rfl, rfl⟩
  go_wp2_with fail
  refine (rfind_no B y a r _ _ _ HR.out HN.out).mono ?_
  rintro e w1 ⟨rfl, rfl⟩
  go_wp2_with fail
  go_ret2
  exact ⟨rfl, Below.refl _ _⟩
set_option maxHeartbeats 1000000 in
theorem reval_some (B y a p f : Nat) (r : RSt) (rv ov : Value) (w : World) (hr : RefAt B w y r rv ov) (hp : p < 2 ^ r.n) (ha : r.get a = some f) :
    Calls Tryz.prog 33 #[.pointer (some ⟨y, 0, none⟩), .int .u32 a, .int .u8 p] w fun e w' => e = .returned (.tuple #[.bool (f.testBit p), .int .i64 0]) ∧ Below w.heap.size w w' := by
  have hn := hr.ok.n6
  have h64 := Cho.two_pow_le r.n hn
  have HR : Hid (RefAt B w y r rv ov) := hr
  have HA : Hid (r.get a = some f) := ha
  have HPL : Hid (Calls Tryz.prog 72 #[.pointer (some ⟨y, 0, none⟩)] w fun e w' => e = .returned (.int .i64 ((2 ^ r.n : Nat) : Nat)) ∧ w' = w) := rplaces_calls y r.n w hr.c0 hn
  clear hr ha
  generalize 2 ^ r.n = N at *
  go_enter Tryz.func33, Tryz.ntmps33
  go_wp2_with fail
  refine HPL.out.mono ?_
  rintro e w0 ⟨rfl, rfl⟩
  go_wp2_with fail
  refine (rfind_some B y a f r _ _ _ HR.out HA.out).mono ?_
  rintro e w1 ⟨⟨j, hj, rfl⟩, rfl⟩
  go_wp2_with fail
  refine (rof_get B y a f r _ _ _ HR.out HA.out).mono ?_
  rintro e w2 ⟨rfl, q, rfl⟩
  have B3 : Hid (Below w1.heap.size w1 (w1.drewN q)) := below_dr _ _
  generalize w1.drewN q = w3 at *
  go_wp2_with fail
  refine (rat_calls f p _ (by omega)).mono ?_
  rintro e w4 ⟨rfl, rfl⟩
  go_wp2_with fail
  go_ret2
  exact ⟨rfl, B3.out⟩

set_option maxHeartbeats 1000000 in
theorem rsame_some (B y a b f g : Nat) (r : RSt) (rv ov : Value) (w : World) (hr : RefAt B w y r rv ov) (ha : r.get a = some f) (hb : r.get b = some g) :
    Calls Tryz.prog 37 #[.pointer (some ⟨y, 0, none⟩), .int .u32 a, .int .u32 b] w fun e w' => e = .returned (.tuple #[.bool (decide (f = g)), .int .i64 0]) ∧ Below w.heap.size w w' := by
  have HR : Hid (RefAt B w y r rv ov) := hr
  have HA : Hid (r.get a = some f) := ha
  have HB : Hid (r.get b = some g) := hb
  have HK : Hid (∀ h ∈ [a, b], h ∈ r.hs) := by
    intro h hh
    simp only [List.mem_cons, List.not_mem_nil, or_false] at hh
    rcases hh with rfl | rfl
    · exact get_mem ha
    · exact get_mem hb
  have HE : Hid (((f : Int) == (g : Int)) = decide (f = g)) := by show ((f : Int) == (g : Int)) = decide (f = g); rw [Bool.eq_iff_iff]; simp; omega
  clear hr ha hb
  go_enter Tryz.func37, Tryz.ntmps37
  go_wp2_with fail
  refine (rknows_yes B y r _ _ _ [a, b] _ (HR.out.alloc _) (rowH_two _ a b) (by simp) HK.out).mono ?_
  rintro e w1 ⟨rfl, rfl⟩
  have B1 : Hid (Below w.heap.size w (w.alloc (.cells #[.int .u32 (a : Nat), .int .u32 (b : Nat)] 57))) := below_alloc _ _
  generalize w.alloc (.cells #[.int .u32 (a : Nat), .int .u32 (b : Nat)] 57) = w1 at *
  have HR1 : Hid (RefAt B w1 y r rv ov) := HR.out.below B1.out
  go_wp2_with fail
  refine (rof_get B y a f r _ _ _ HR1.out HA.out).mono ?_
  rintro e w2 ⟨rfl, q, rfl⟩
  go_wp2_with fail
  refine (rof_get B y b g r _ _ _ (HR1.out.drewN q) HB.out).mono ?_
  rintro e w3 ⟨rfl, q', rfl⟩
  have B3 : Hid (Below w.heap.size w ((w1.drewN q).drewN q')) := below_trans (below_trans B1.out (below_dr _ _)) (below_dr _ _)
  generalize (w1.drewN q).drewN q' = w3 at *
  go_wp2_with fail
  go_ret2
  rw [← HE.out]
  exact ⟨rfl, B3.out⟩
set_option maxHeartbeats 1000000 in
theorem rsame_none (B y a b : Nat) (r : RSt) (rv ov : Value) (w : World) (hr : RefAt B w y r rv ov) (hab : ¬ ∃ x z, r.get a = some x ∧ r.get b = some z) :
    Calls Tryz.prog 37 #[.pointer (some ⟨y, 0, none⟩), .int .u32 a, .int .u32 b] w fun e w' => e = .returned (.tuple #[.bool false, .int .i64 2]) ∧ Below w.heap.size w w' := by
  have HR : Hid (RefAt B w y r rv ov) := hr
  obtain ⟨m, hm, hno⟩ := two_known hab
  have HNO : Hid ([a, b][m] ∉ r.hs) := hno
  clear hr hno hab
  go_enter Tryz.func37, Tryz.ntmps37
  go_wp2_with fail
  refine (rknows_no B y m r _ _ _ [a, b] _ (HR.out.alloc _) (rowH_two _ a b) (by simp) hm HNO.out).mono ?_
  rintro e w1 ⟨rfl, rfl⟩
  have B1 : Hid (Below w.heap.size w (w.alloc (.cells #[.int .u32 (a : Nat), .int .u32 (b : Nat)] 57))) := below_alloc _ _
  generalize w.alloc (.cells #[.int .u32 (a : Nat), .int .u32 (b : Nat)] 57) = w1 at *
  go_wp2_with fail
  go_ret2
  exact ⟨rfl, B1.out⟩

end Go.Proofs.YthoodkbdpnffdabGreatDoor

/-
  Own work: the document's answer: how many nodes there are (walks).
-/
namespace Go.Proofs.YthoodkbdpnffdabGreatDoor
open Go.RowKit
open Cho (U64 Tab full col)

theorem drew_below (w : World) : Below w.heap.size w w.drew := (Below.refl _ _).drew
/-- Counting nodes, at whatever world the store lies in. -/
theorem rnodes_len (B y : Nat) (r : RSt) (rv ov : Value) (fns : List Nat) (w : World) (hr : RefAt B w y r rv ov) (hT : ∀ x ∈ fns, Tab r.n x) (hl : fns.length ≤ 31) (W : World) (v : Value) (hv : RowU W v fns) (hlt : ∀ g, v.ownBlock = some g → g < W.heap.size) (hW : Below w.heap.size w W) :
    Calls Tryz.prog 91 #[.pointer (some ⟨y, 0, none⟩), v, ov] W fun e w' => ∃ ao cap, e = .returned (.slice ao (Cho.nodesT r.n fns r.ord).length cap) ∧ Below w.heap.size w w' := by
  have h1 := hr.below hW
  refine (rnodes_calls y r.n v ov fns r.ord W h1.c0 h1.ok.n6 hv hlt h1.ordI hT hl h1.ok.ordl h1.ok.ordm).mono ?_
  rintro e w' ⟨v', rfl, l⟩
  obtain ⟨ao, cap, rfl⟩ := owns_slice l.row
  exact ⟨ao, cap, rfl, below_trans hW l.bel⟩

set_option maxRecDepth 100000 in
set_option maxHeartbeats 1000000 in
theorem rused_calls (B y : Nat) (r : RSt) (rv ov : Value) (w : World) (hr : RefAt B w y r rv ov) :
    Calls Tryz.prog 47 #[.pointer (some ⟨y, 0, none⟩)] w fun e w' => e = .returned (.int .i64 (r.used : Nat)) ∧ Below w.heap.size w w' := by
  have hlen := hr.ok.len
  have hu : r.used ≤ 4000 := outTo_small hr.ok.n6 _ _ (by simp [RSt.ts]; omega) _ (Nat.le_refl _)
  have KT : Hid (∀ W, Below w.heap.size w W → Calls Tryz.prog 93 #[.pointer (some ⟨y, 0, none⟩)] W fun e w' => ∃ v', e = .returned v' ∧ Loc W w' v' r.ts ∧ Below w.heap.size w w') := fun W hW =>
    (rtables_calls B y r rv ov W (hr.below hW)).mono (fun e w' ⟨v', h1, h2⟩ => ⟨v', h1, h2, below_trans hW h2.bel⟩)
  have KN : Hid (∀ W v, RowU W v r.ts → (∀ g, v.ownBlock = some g → g < W.heap.size) → Below w.heap.size w W → Calls Tryz.prog 91 #[.pointer (some ⟨y, 0, none⟩), v, ov] W fun e w' => ∃ ao cap, e = .returned (.slice ao r.used cap) ∧ Below w.heap.size w w') := fun W v h1 h2 h3 =>
    rnodes_len B y r rv ov r.ts w hr hr.ok.tab (by simp [RSt.ts]; omega) W v h1 h2 h3
  have KC : Hid (∀ W, Below w.heap.size w W → W.cell? ⟨y, 4, none⟩ = some ov) := fun W hW => (hr.below hW).c4
  have q4 := hr.c4
  have hy := lt_of_block hr.block
  clear hr
  go_enter Tryz.func47, Tryz.ntmps47
  go_wp2_with fail
  go_region_held3 (fun w' => w'.cell? ⟨y, 4, none⟩ = some ov) (first | exact q4 | exact KC.out _ B1.out | exact KC.out _ B2.out | exact KC.out _ (below_trans B1.out (drew_below _)))
    (first
      | (go_at_call 93; refine (KT.out _ (drew_below _)).mono ?_; rintro e w1 ⟨v1, rfl, l1, b1⟩; have L1 : Hid (Loc _ w1 v1 r.ts) := l1; have B1 : Hid (Below w.heap.size w w1) := b1; clear l1 b1)
      | (go_at_call 91; refine (KN.out _ _ L1.out.rowU (fun g hg => (L1.out.row.lt g hg).2) B1.out).mono ?_; rintro e w2 ⟨ao, cap, rfl, b2⟩; have B2 : Hid (Below w.heap.size w w2) := b2; clear b2))
  go_wp2_with fail
  go_ret
  exact ⟨rfl, B2.out⟩

def RSt.size (r : RSt) (t : Nat) : Nat := (Cho.nodesT r.n [t] r.ord).length
set_option maxRecDepth 100000 in
set_option maxHeartbeats 1000000 in
theorem rsize_some (B y a f : Nat) (r : RSt) (rv ov : Value) (w : World) (hr : RefAt B w y r rv ov) (ha : r.get a = some f) :
    Calls Tryz.prog 45 #[.pointer (some ⟨y, 0, none⟩), .int .u32 a] w fun e w' => e = .returned (.tuple #[.int .i64 (r.size f : Nat), .int .i64 0]) ∧ Below w.heap.size w w' := by
  have HR : Hid (RefAt B w y r rv ov) := hr
  have HA : Hid (r.get a = some f) := ha
  have hu : r.size f ≤ 4000 := outTo_small hr.ok.n6 _ _ (by simp) _ (Nat.le_refl _)
  have KO : Hid (∀ W, Below w.heap.size w W → Calls Tryz.prog 76 #[.pointer (some ⟨y, 0, none⟩), .int .u32 a] W fun e w' => e = .returned (.int .u64 (f : Nat)) ∧ Below w.heap.size w w') := fun W hW =>
    (rof_get B y a f r rv ov W (hr.below hW) ha).mono (fun e w' ⟨h1, q, h2⟩ => ⟨h1, by rw [h2]; exact below_trans hW (below_dr _ _)⟩)
  have KN : Hid (∀ W, Below w.heap.size w W → Calls Tryz.prog 91 #[.pointer (some ⟨y, 0, none⟩), .slice (some ⟨W.heap.size, 0, none⟩) 1 1, ov] (W.alloc (.cells #[.int .u64 (f : Nat)] 31)) fun e w' => ∃ ao cap, e = .returned (.slice ao (r.size f) cap) ∧ Below w.heap.size w w') := fun W h3 =>
    rnodes_len B y r rv ov [f] w hr (fun x hx => by simp at hx; subst hx; exact get_tab hr.ok ha) (by simp) _ _ ⟨some ⟨W.heap.size, 0, none⟩, 1, rfl, fun i hi => ⟨W.heap.size, rfl, by
      obtain rfl : i = 0 := by simp at hi; omega
      exact cell_of_block (heap_res W (.cells #[.int .u64 (f : Nat)] 31)) 0⟩⟩ (fun g hg => by simp [Value.ownBlock] at hg; simp; omega) (below_trans h3 (below_alloc _ _))
  have KC : Hid (∀ W, Below w.heap.size w W → W.cell? ⟨y, 4, none⟩ = some ov) := fun W hW => (hr.below hW).c4
  have q4 := hr.c4
  have hy := lt_of_block hr.block
  clear hr ha
  go_enter Tryz.func45, Tryz.ntmps45
  go_wp2_with fail
  refine (rfind_some B y a f r _ _ _ HR.out HA.out).mono ?_
  rintro e w1 ⟨⟨j, hj, rfl⟩, rfl⟩
  go_wp2_with fail
  go_region_held3 (fun w' => w'.cell? ⟨y, 4, none⟩ = some ov) (first | exact q4 | exact KC.out _ B1.out | exact KC.out _ B2.out | exact KC.out _ (below_trans B1.out (below_alloc _ _)) | exact KC.out _ (below_trans B1.out (drew_below _)))
    (first
      | (go_at_call 76; refine (KO.out _ (drew_below _)).mono ?_; rintro e w2 ⟨rfl, b1⟩; have B1 : Hid (Below w1.heap.size w1 w2) := b1; clear b1)
      | (go_at_call 91; refine (KN.out _ B1.out).mono ?_; rintro e w3 ⟨ao, cap, rfl, b2⟩; have B2 : Hid (Below w1.heap.size w1 w3) := b2; clear b2))
  go_wp2_with fail
  go_ret2
  exact ⟨rfl, B2.out⟩
end Go.Proofs.YthoodkbdpnffdabGreatDoor

/-
  Own work: the document's answer: Count, One, Support (walks).
-/
namespace Go.Proofs.YthoodkbdpnffdabGreatDoor
open Go.RowKit
open Cho (U64 Tab full col)

theorem cnt_tab {n t : Nat} (h : Tab n t) (hn : n ≤ 6) : Cho.cnt t (2 ^ n) = Cho.cnt t 64 := by
  have h64 := Cho.two_pow_le n hn
  have := Cho.cnt_high t (2 ^ n) (64 - 2 ^ n) (fun p hp => h.hi p hp)
  rw [← this]; congr 1; omega

set_option maxRecDepth 100000 in
set_option maxHeartbeats 1000000 in
theorem rcount_some (B y a f : Nat) (r : RSt) (rv ov : Value) (w : World) (hr : RefAt B w y r rv ov) (ha : r.get a = some f) :
    Calls Tryz.prog 41 #[.pointer (some ⟨y, 0, none⟩), .int .u32 a] w fun e w' => e = .returned (.tuple #[.int .i64 (Cho.cnt f 64 : Nat), .int .i64 0]) ∧ Below w.heap.size w w' := by
  have HR : Hid (RefAt B w y r rv ov) := hr
  have HA : Hid (r.get a = some f) := ha
  have hn := hr.ok.n6
  have h64 := Cho.two_pow_le r.n hn
  have HE : Hid (Cho.cnt f (2 ^ r.n) = Cho.cnt f 64) := cnt_tab (get_tab hr.ok ha) hn
  have KP : Hid (∀ W, Below w.heap.size w W → Calls Tryz.prog 72 #[.pointer (some ⟨y, 0, none⟩)] W fun e w' => e = .returned (.int .i64 ((2 ^ r.n : Nat) : Nat)) ∧ w' = W) := fun W hW => rplaces_calls y r.n W (hr.below hW).c0 hn
  have KO : Hid (∀ W, Below w.heap.size w W → Calls Tryz.prog 76 #[.pointer (some ⟨y, 0, none⟩), .int .u32 a] W fun e w' => e = .returned (.int .u64 (f : Nat)) ∧ Below w.heap.size w w') := fun W hW =>
    (rof_get B y a f r rv ov W (hr.below hW) ha).mono (fun e w' ⟨h1, q, h2⟩ => ⟨h1, by rw [h2]; exact below_trans hW (below_dr _ _)⟩)
  clear hr ha
  generalize 2 ^ r.n = N at *
  go_enter Tryz.func41, Tryz.ntmps41
  go_wp2_with fail
  refine (rfind_some B y a f r _ _ _ HR.out HA.out).mono ?_
  rintro e w1 ⟨⟨j, hj, rfl⟩, rfl⟩
  go_wp2_with fail
  go_loopw [6, 7] (fun c i wr => ∃ k : Nat, k ≤ N ∧ i = .int .i64 k ∧ c = .int .i64 (Cho.cnt f k : Nat) ∧ Hid (Below w1.heap.size w1 wr)) (fun _ i _ => N - (intOf i).toNat)
  case atStart => exact ⟨0, Nat.zero_le _, rfl, rfl, Below.refl _ _⟩
  case round =>
    obtain ⟨k, hk, rfl, rfl, BR⟩ := hrel
    go_wp2_with fail
    refine (KP.out _ BR.out).mono ?_
    rintro e w2 ⟨rfl, rfl⟩
    by_cases hlt : k < N
    · have hcl := Cho.cnt_le f k
      have E : Hid (Cho.cnt f (k + 1) = Cho.cnt f k + if f.testBit k then 1 else 0) := rfl
      generalize Cho.cnt f k = c at *
      go_wp2_with fail
      refine (KO.out _ BR.out).mono ?_
      rintro e w3 ⟨rfl, b3⟩
      have B3 : Hid (Below w1.heap.size w1 w3) := b3
      clear b3
      go_wp2_with fail
      refine (rat_calls f k _ (by omega)).mono ?_
      rintro e w4 ⟨rfl, rfl⟩
      cases hfk : f.testBit k
      · go_wp2_with fail
        refine ⟨⟨k + 1, hlt, by go_num, val_int ?_, B3⟩, by simp [intOf]; omega⟩
        rw [E.out, hfk]; rfl
      · go_wp2_with fail
        refine ⟨⟨k + 1, hlt, by go_num, val_int ?_, B3⟩, by simp [intOf]; omega⟩
        rw [E.out, hfk]; rfl
    · have HK : Hid (Cho.cnt f k = Cho.cnt f 64) := by show Cho.cnt f k = Cho.cnt f 64; rw [← HE.out, show k = N from by omega]
      rw [HK.out]
      go_wp2_with fail
      go_ret2
      exact ⟨rfl, BR.out⟩

set_option maxRecDepth 100000 in
set_option maxHeartbeats 1000000 in
theorem rone_zero (B y a : Nat) (r : RSt) (rv ov : Value) (w : World) (hr : RefAt B w y r rv ov) (ha : r.get a = some 0) :
    Calls Tryz.prog 43 #[.pointer (some ⟨y, 0, none⟩), .int .u32 a] w fun e w' => e = .returned (.tuple #[.int .u8 0, .int .i64 5]) ∧ Below w.heap.size w w' := by
  have HR : Hid (RefAt B w y r rv ov) := hr
  have HA : Hid (r.get a = some 0) := ha
  have hn := hr.ok.n6
  have h64 := Cho.two_pow_le r.n hn
  have KP : Hid (∀ W, Below w.heap.size w W → Calls Tryz.prog 72 #[.pointer (some ⟨y, 0, none⟩)] W fun e w' => e = .returned (.int .i64 ((2 ^ r.n : Nat) : Nat)) ∧ w' = W) := fun W hW => rplaces_calls y r.n W (hr.below hW).c0 hn
  have KO : Hid (∀ W, Below w.heap.size w W → Calls Tryz.prog 76 #[.pointer (some ⟨y, 0, none⟩), .int .u32 a] W fun e w' => e = .returned (.int .u64 ((0 : Nat) : Int)) ∧ Below w.heap.size w w') := fun W hW =>
    (rof_get B y a 0 r rv ov W (hr.below hW) ha).mono (fun e w' ⟨h1, q, h2⟩ => ⟨h1, by rw [h2]; exact below_trans hW (below_dr _ _)⟩)
  have KA : Hid (∀ W (k : Nat), k < 64 → Calls Tryz.prog 77 #[.int .u64 ((0 : Nat) : Int), .int .i64 k] W fun e w' => e = .returned (.bool false) ∧ w' = W) := fun W k hk => by
    have := rat_calls 0 k W hk
    rw [Nat.zero_testBit] at this; exact this
  clear hr ha
  generalize 2 ^ r.n = N at *
  generalize ((0 : Nat) : Int) = z at *
  go_enter Tryz.func43, Tryz.ntmps43
  go_wp2_with fail
  refine (rfind_some B y a 0 r _ _ _ HR.out HA.out).mono ?_
  rintro e w1 ⟨⟨j, hj, rfl⟩, rfl⟩
  go_wp2_with fail
  go_loopw [6] (fun i wr => ∃ k : Nat, k ≤ N ∧ i = .int .i64 k ∧ Hid (Below w1.heap.size w1 wr)) (fun i _ => N - (intOf i).toNat)
  case atStart => exact ⟨0, Nat.zero_le _, rfl, Below.refl _ _⟩
  case round =>
    obtain ⟨k, hk, rfl, BR⟩ := hrel
    go_wp2_with fail
    refine (KP.out _ BR.out).mono ?_
    rintro e w2 ⟨rfl, rfl⟩
    by_cases hlt : k < N
    · go_wp2_with fail
      refine (KO.out _ BR.out).mono ?_
      rintro e w3 ⟨rfl, b3⟩
      have B3 : Hid (Below w1.heap.size w1 w3) := b3
      clear b3
      go_wp2_with fail
      refine (KA.out _ k (by omega)).mono ?_
      rintro e w4 ⟨rfl, rfl⟩
      go_wp2_with fail
      exact ⟨⟨k + 1, hlt, by go_num, B3⟩, by simp [intOf]; omega⟩
    · go_wp2_with fail
      go_ret2
      exact ⟨rfl, BR.out⟩

theorem least_lt {n t : Nat} (h : Tab n t) (hn : n ≤ 6) (h0 : t ≠ 0) : Cho.least t 64 < 2 ^ n ∧ t.testBit (Cho.least t 64) = true := by
  obtain ⟨p, hp, hpb⟩ := Cho.nz_bit (h.u64 hn) h0
  obtain ⟨h1, h2, h3⟩ := Cho.least_spec t 64
  have hl : Cho.least t 64 ≤ p := by
    apply Classical.byContradiction
    intro hc
    have := h2 p (by omega)
    rw [hpb] at this; cases this
  have hb := h3 (by omega)
  refine ⟨?_, hb⟩
  apply Classical.byContradiction
  intro hc
  have := h.hi _ (Nat.le_of_not_lt hc)
  rw [hb] at this; cases this

set_option maxRecDepth 100000 in
set_option maxHeartbeats 1000000 in
theorem rone_some (B y a f : Nat) (r : RSt) (rv ov : Value) (w : World) (hr : RefAt B w y r rv ov) (ha : r.get a = some f) (h0 : f ≠ 0) :
    Calls Tryz.prog 43 #[.pointer (some ⟨y, 0, none⟩), .int .u32 a] w fun e w' => e = .returned (.tuple #[.int .u8 (Cho.least f 64 : Nat), .int .i64 0]) ∧ Below w.heap.size w w' := by
  have HR : Hid (RefAt B w y r rv ov) := hr
  have HA : Hid (r.get a = some f) := ha
  have hn := hr.ok.n6
  have h64 := Cho.two_pow_le r.n hn
  obtain ⟨hl1, hl2⟩ := least_lt (get_tab hr.ok ha) hn h0
  have HL2 : Hid (f.testBit (Cho.least f 64) = true) := hl2
  have HL3 : Hid (∀ k, k < Cho.least f 64 → f.testBit k = false) := (Cho.least_spec f 64).2.1
  generalize Cho.least f 64 = l at *
  have KP : Hid (∀ W, Below w.heap.size w W → Calls Tryz.prog 72 #[.pointer (some ⟨y, 0, none⟩)] W fun e w' => e = .returned (.int .i64 ((2 ^ r.n : Nat) : Nat)) ∧ w' = W) := fun W hW => rplaces_calls y r.n W (hr.below hW).c0 hn
  have KO : Hid (∀ W, Below w.heap.size w W → Calls Tryz.prog 76 #[.pointer (some ⟨y, 0, none⟩), .int .u32 a] W fun e w' => e = .returned (.int .u64 (f : Nat)) ∧ Below w.heap.size w w') := fun W hW =>
    (rof_get B y a f r rv ov W (hr.below hW) ha).mono (fun e w' ⟨h1, q, h2⟩ => ⟨h1, by rw [h2]; exact below_trans hW (below_dr _ _)⟩)
  clear hr ha hl2 h0
  generalize 2 ^ r.n = N at *
  go_enter Tryz.func43, Tryz.ntmps43
  go_wp2_with fail
  refine (rfind_some B y a f r _ _ _ HR.out HA.out).mono ?_
  rintro e w1 ⟨⟨j, hj, rfl⟩, rfl⟩
  go_wp2_with fail
  go_loopw [6] (fun i wr => ∃ k : Nat, k ≤ l ∧ i = .int .i64 k ∧ Hid (Below w1.heap.size w1 wr)) (fun i _ => N - (intOf i).toNat)
  case atStart => exact ⟨0, Nat.zero_le _, rfl, Below.refl _ _⟩
  case round =>
    obtain ⟨k, hk, rfl, BR⟩ := hrel
    go_wp2_with fail
    refine (KP.out _ BR.out).mono ?_
    rintro e w2 ⟨rfl, rfl⟩
    have hlt : k < N := by omega
    go_wp2_with fail
    refine (KO.out _ BR.out).mono ?_
    rintro e w3 ⟨rfl, b3⟩
    have B3 : Hid (Below w1.heap.size w1 w3) := b3
    clear b3
    by_cases hkl : k = l
    · obtain rfl := hkl
      have KA : Hid (Calls Tryz.prog 77 #[.int .u64 (f : Nat), .int .i64 k] w3 fun e w' => e = .returned (.bool true) ∧ w' = w3) := by
        have := rat_calls f k w3 (by omega)
        rw [HL2.out] at this; exact this
      go_wp2_with fail
      refine KA.out.mono ?_
      rintro e w4 ⟨rfl, rfl⟩
      go_wp2_with fail
      go_ret2
      exact ⟨rfl, B3.out⟩
    · have KA : Hid (Calls Tryz.prog 77 #[.int .u64 (f : Nat), .int .i64 k] w3 fun e w' => e = .returned (.bool false) ∧ w' = w3) := by
        have := rat_calls f k w3 (by omega)
        rw [HL3.out k (by omega)] at this; exact this
      go_wp2_with fail
      refine KA.out.mono ?_
      rintro e w4 ⟨rfl, rfl⟩
      go_wp2_with fail
      exact ⟨⟨k + 1, by omega, by go_num, B3⟩, by simp [intOf]; omega⟩
end Go.Proofs.YthoodkbdpnffdabGreatDoor
