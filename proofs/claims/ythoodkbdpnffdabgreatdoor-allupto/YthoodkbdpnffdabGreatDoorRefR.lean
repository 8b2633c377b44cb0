/-
  Own work: the document's answer: Support (a walk).
-/
import Derived.Test.YthoodkbdpnffdabGreatDoorRefO
import Derived.Test.YthoodkbdpnffdabGreatDoorInv
namespace Go.Proofs.YthoodkbdpnffdabGreatDoor
open Go.RowKit
open Cho (U64 Tab full col)

def hangsTo (t i : Nat) : Nat → Bool
  | 0 => false
  | k + 1 => hangsTo t i k || (t.testBit (Cho.put k i false) != t.testBit (Cho.put k i true))
/-- The set of the variables that a function hangs on. -/
def supT (n t : Nat) : Nat := Cho.bld (fun i => hangsTo t i (2 ^ n)) n
theorem hangsTo_iff (t i k : Nat) : hangsTo t i k = true ↔ ∃ p, p < k ∧ t.testBit (Cho.put p i false) ≠ t.testBit (Cho.put p i true) := by
  induction k with
  | zero => simp [hangsTo]
  | succ k ih =>
    simp only [hangsTo, Bool.or_eq_true, ih, bne_iff_ne]
    constructor
    · rintro (⟨p, h1, h2⟩ | h)
      · exact ⟨p, by omega, h2⟩
      · exact ⟨k, by omega, h⟩
    · rintro ⟨p, h1, h2⟩
      by_cases e : p = k
      · subst e; exact .inr h2
      · exact .inl ⟨p, by omega, h2⟩
theorem put_or {s i : Nat} (h : s < 2 ^ i) : Cho.put s i true = s ||| 2 ^ i := by
  apply Nat.eq_of_testBit_eq
  intro j
  rw [Cho.put_testBit, Nat.testBit_or, Nat.testBit_two_pow]
  by_cases e : j = i
  · subst e; simp
  · have : ¬ i = j := fun h => e h.symm
    simp [e, this]

set_option maxRecDepth 100000 in
set_option maxHeartbeats 1000000 in
theorem rsupport_some (B y a f : Nat) (r : RSt) (rv ov : Value) (w : World) (hr : RefAt B w y r rv ov) (ha : r.get a = some f) :
    Calls Tryz.prog 39 #[.pointer (some ⟨y, 0, none⟩), .int .u32 a] w fun e w' => e = .returned (.tuple #[.int .u8 (supT r.n f : Nat), .int .i64 0]) ∧ Below w.heap.size w w' := by
  have HR : Hid (RefAt B w y r rv ov) := hr
  have HA : Hid (r.get a = some f) := ha
  have hn := hr.ok.n6
  have h64 := Cho.two_pow_le r.n hn
  have HSUP : Hid (Cho.bld (fun i => hangsTo f i (2 ^ r.n)) r.n = supT r.n f) := rfl
  have HPUT : Hid (∀ k i b, i < r.n → k < 2 ^ r.n → Cho.put k i b < 64) := fun k i b hi hk => by have := Cho.put_lt k i r.n b hi hk; omega
  have KP : Hid (∀ W, Below w.heap.size w W → Calls Tryz.prog 72 #[.pointer (some ⟨y, 0, none⟩)] W fun e w' => e = .returned (.int .i64 ((2 ^ r.n : Nat) : Nat)) ∧ w' = W) := fun W hW => rplaces_calls y r.n W (hr.below hW).c0 hn
  generalize 2 ^ r.n = N at *
  clear hr ha
  go_enter Tryz.func39, Tryz.ntmps39
  go_wp2_with fail
  refine (rfind_some B y a f r _ _ _ HR.out HA.out).mono ?_
  rintro e w1 ⟨⟨j, hj, rfl⟩, rfl⟩
  go_wp2_with fail
  refine (rof_get B y a f r _ _ _ HR.out HA.out).mono ?_
  rintro e w2 ⟨rfl, q, rfl⟩
  have B3 : Hid (Below w1.heap.size w1 (w1.drewN q)) := below_dr _ _
  generalize w1.drewN q = w3 at *
  have HR3 : Hid (RefAt B w3 y r rv ov) := HR.out.below B3.out
  have c0 := HR3.out.c0
  have KPW : Hid (Calls Tryz.prog 72 #[.pointer (some ⟨y, 0, none⟩)] w3 fun e w' => e = .returned (.int .i64 (N : Nat)) ∧ w' = w3) := KP.out _ B3.out
  clear KP
  go_wp2_with fail
  go_loopw [7, 8] (fun x7 x8 wr => ∃ i : Nat, i ≤ r.n ∧ x8 = .int .i64 i ∧ x7 = .int .i64 (Cho.bld (fun i => hangsTo f i N) i : Nat) ∧ wr = w3) (fun _ x8 _ => r.n - (intOf x8).toNat)
  case atStart => exact ⟨0, Nat.zero_le _, rfl, rfl, rfl⟩
  case round =>
    obtain ⟨i, hi, rfl, rfl, rfl⟩ := hrel
    by_cases hlt : i < r.n
    · have E : Hid (Cho.bld (fun i => hangsTo f i N) (i + 1) = if hangsTo f i N then Cho.bld (fun i => hangsTo f i N) i ||| 2 ^ i else Cho.bld (fun i => hangsTo f i N) i) := rfl
      have hsl : Cho.bld (fun i => hangsTo f i N) i < 2 ^ i := Cho.bld_lt _ _
      have h2i : 2 ^ i ≤ 64 := Cho.two_pow_le i (by omega)
      have HPO : Hid (Cho.put (Cho.bld (fun i => hangsTo f i N) i) i true = Cho.bld (fun i => hangsTo f i N) i ||| 2 ^ i) := put_or hsl
      have hs64 : Cho.bld (fun i => hangsTo f i N) i < 64 := by omega
      clear hsl h2i
      generalize Cho.bld (fun i => hangsTo f i N) i = S at *
      go_wp2_with fail
      go_loopw [9, 10] (fun x9 x10 wq => ∃ k : Nat, k ≤ N ∧ x10 = .int .i64 k ∧ x9 = .bool (hangsTo f i k) ∧ wq = wr) (fun _ x10 _ => N - (intOf x10).toNat)
      case atStart => exact ⟨0, Nat.zero_le _, rfl, rfl, rfl⟩
      case round =>
        obtain ⟨k, hk, rfl, rfl, rfl⟩ := hrel
        go_wp2_with fail
        refine KPW.out.mono ?_
        rintro e w4 ⟨rfl, rfl⟩
        by_cases hkl : k < N
        · have EH : Hid (hangsTo f i (k + 1) = (hangsTo f i k || (f.testBit (Cho.put k i false) != f.testBit (Cho.put k i true)))) := rfl
          cases hh : hangsTo f i k
          · have hp0 := HPUT.out k i false hlt hkl
            have hp1 := HPUT.out k i true hlt hkl
            go_wp2_with fail
            refine (rwith_calls k i false _ (by omega) (by omega)).mono ?_
            rintro e w5 ⟨rfl, rfl⟩
            have KA0 : Hid (Calls Tryz.prog 77 #[.int .u64 (f : Nat), .int .i64 (Cho.put k i false : Nat)] w5 fun e w' => e = .returned (.bool (f.testBit (Cho.put k i false))) ∧ w' = w5) := rat_calls f _ _ hp0
            generalize f.testBit (Cho.put k i false) = b0 at *
            generalize Cho.put k i false = z0 at *
            go_wp2_with fail
            refine KA0.out.mono ?_
            rintro e w6 ⟨rfl, rfl⟩
            go_wp2_with fail
            refine (rwith_calls k i true _ (by omega) (by omega)).mono ?_
            rintro e w7 ⟨rfl, rfl⟩
            have KA1 : Hid (Calls Tryz.prog 77 #[.int .u64 (f : Nat), .int .i64 (Cho.put k i true : Nat)] w7 fun e w' => e = .returned (.bool (f.testBit (Cho.put k i true))) ∧ w' = w7) := rat_calls f _ _ hp1
            generalize f.testBit (Cho.put k i true) = b1 at *
            generalize Cho.put k i true = z1 at *
            go_wp2_with fail
            refine KA1.out.mono ?_
            rintro e w8 ⟨rfl, rfl⟩
            go_wp2_with fail
            refine ⟨⟨k + 1, hkl, by go_num, val_bool ?_, trivial⟩, by simp [intOf]; omega⟩
            rw [EH.out, hh]; rfl
          · go_wp2_with fail
            refine ⟨⟨k + 1, hkl, by go_num, val_bool ?_, trivial⟩, by simp [intOf]; omega⟩
            rw [EH.out, hh]; rfl
        · have HKN : Hid (k = N) := by show k = N; omega
          rw [HKN.out]
          cases hh : hangsTo f i N
          · go_wp2_with fail
            refine ⟨⟨i + 1, hlt, by go_num, val_int ?_, trivial⟩, by simp [intOf]; omega⟩
            rw [E.out, hh]; rfl
          · go_wp2_with fail
            refine (rwith_calls S i true _ hs64 (by omega)).mono ?_
            rintro e w5 ⟨rfl, rfl⟩
            rw [HPO.out]
            go_wp2_with fail
            refine ⟨⟨i + 1, hlt, by go_num, val_int ?_, trivial⟩, by simp [intOf]; omega⟩
            rw [E.out, hh]; rfl
    · have HI : Hid (Cho.bld (fun i => hangsTo f i N) i = supT r.n f) := by show Cho.bld (fun i => hangsTo f i N) i = supT r.n f; rw [← HSUP.out, show i = r.n from by omega]
      have hsl : Cho.bld (fun i => hangsTo f i N) i < 2 ^ i := Cho.bld_lt _ _
      have h2i : 2 ^ i ≤ 64 := Cho.two_pow_le i (by omega)
      have hs64 : supT r.n f < 64 := by rw [← HI.out]; omega
      rw [HI.out]
      clear hsl h2i
      generalize hS : supT r.n f = S at *
      have HSS : Hid (supT r.n f = S) := hS
      clear hS
      go_wp2_with fail
      go_ret2
      rw [HSS.out]
      exact ⟨rfl, B3.out⟩
end Go.Proofs.YthoodkbdpnffdabGreatDoor

/-
  Own work: the document's answer: New and Release (walks).
-/
namespace Go.Proofs.YthoodkbdpnffdabGreatDoor
open Go.RowKit
open Cho (U64 Tab full col)

/-- An empty store. -/
def RSt.empty (n room : Nat) : RSt := { n := n, room := room, given := 0, L := [], ord := List.range n }
theorem empty_ok {n room : Nat} (h1 : 1 ≤ n) (h6 : n ≤ 6) (hr : room ≤ 4000) : RefOk (RSt.empty n room) :=
  ⟨h1, h6, hr, by simp [RSt.empty], by simp [RSt.empty], by simp [RSt.empty, RSt.hs], by simp [RSt.empty, RSt.hs], by simp [RSt.empty, RSt.ts], by simp [RSt.empty], by simp [RSt.empty]⟩

/-- While the order is laid. -/
structure RLay (w wr : World) (n room k : Nat) (ov : Value) : Prop where
  blk : wr.heap[w.heap.size]? = some (.cells #[.int .i64 (n : Nat), .int .i64 (room : Nat), .slice none 0 0, .int .u32 0, ov] 65 (0, 0))
  row : wr.ownsRow (w.heap.size + 1) 3 1 ov k (lv (List.range k))
  bel : Below w.heap.size w wr

theorem rlay_mid {w wr w1 : World} {n room k : Nat} {ov : Value} {o : Obj} (h : RLay w wr n room k ov) (hg : (wr.alloc o).grownBy w1 ov.ownBlock) :
    w1.heap[w.heap.size]? = some (.cells #[.int .i64 (n : Nat), .int .i64 (room : Nat), .slice none 0 0, .int .u32 0, ov] 65 (0, 0)) := by
  have hlt := h.row.lt
  have hs := lt_of_block h.blk
  have n0 : some w.heap.size ≠ ov.ownBlock := fun e => by have := (hlt _ e.symm).1; omega
  exact (hg.block _ (by simp; omega) n0).trans ((Below.heap_alloc _ _ _ hs).trans h.blk)
theorem rlay_step {w wr w1 : World} {n room k : Nat} {ov ov' : Value} {o : Obj} (h : RLay w wr n room k ov) (hr : w1.ownsRow (w.heap.size + 1) 3 1 ov' (k + 1) (lv (List.range k) ++ [.int .i64 k])) (hg : (wr.alloc o).grownBy w1 ov.ownBlock) :
    RLay w (w1.setCell ⟨w.heap.size, 4, none⟩ ov') n room (k + 1) ov' := by
  have hlt := h.row.lt
  have hs := lt_of_block h.blk
  have d0 := rlay_mid h hg
  refine ⟨?_, ?_, ?_⟩
  · simp only [World.setCell, Array.getElem?_modify, d0]; simp
  · have e : lv (List.range k) ++ [.int .i64 (k : Int)] = lv (List.range (k + 1)) := by simp [lv, List.range_succ]
    rw [e] at hr
    exact owns_kept hr fun g hgb => block_set_other (by have := (hr.lt g hgb).1; simp; omega)
  · exact ((h.bel.alloc (by omega) o).grown hg (by simp; omega) (fun q hq => by have := (hlt q hq).1; omega)).setCell (by simp) _

set_option maxRecDepth 100000 in
set_option maxHeartbeats 1000000 in
theorem rnew_calls (n room : Nat) (w : World) (h1 : 1 ≤ n) (h6 : n ≤ 6) (hr1 : 1 ≤ room) (hr4 : room ≤ 4000) :
    Calls Tryz.prog 9 #[.int .i64 n, .int .i64 room] w fun e w' => ∃ y ov, e = .returned (.tuple #[.pointer (some ⟨y, 0, none⟩), .int .i64 0]) ∧ RefAt w.heap.size w' y (RSt.empty n room) (.slice none 0 0) ov ∧ Below w.heap.size w w' := by
  obtain ⟨i0, hi, hz0, hz1, hz2⟩ := info_parts Tryz.infoInt
  have HOK : Hid (RefOk (RSt.empty n room)) := empty_ok h1 h6 hr4
  go_enter Tryz.func9, Tryz.ntmps9
  go_wp2_with fail
  go_loopw [7] (fun i wr => ∃ (k : Nat) (ov : Value), k ≤ n ∧ i = .int .i64 k ∧ RLay w wr n room k ov) (fun i _ => n - (intOf i).toNat)
  case atStart => exact ⟨0, .slice none 0 0, Nat.zero_le _, rfl, heap_res _ _, World.ownsRow_nil _ _ _ _, below_alloc _ _⟩
  case round =>
    obtain ⟨k, ov, hk, rfl, hlay⟩ := hrel
    obtain ⟨ao, cap, rfl⟩ := owns_slice hlay.row
    have c4 := cell_of_block hlay.blk 4
    have hsz := lt_of_block hlay.blk
    have HL : Hid (RLay w wr n room k (.slice ao k cap)) := hlay
    have HROW : Hid ((wr.alloc (.cells #[.int .i64 k] 3)).ownsRow (w.heap.size + 1) 3 1 (.slice ao k cap) k (lv (List.range k))) := hlay.row.alloc _
    clear hlay
    by_cases hkn : k < n
    · have F1 : Hid (k + 1 ≤ maxLen) := by show k + 1 ≤ maxLen; unfold maxLen; omega
      have F2 : Hid ((k + 1) * 8 ≤ 140737488355328) := by show (k + 1) * 8 ≤ 140737488355328; omega
      have F3 : Hid (w.heap.size + 1 ≤ (wr.alloc (.cells #[.int .i64 k] 3)).heap.size) := by show w.heap.size + 1 ≤ (wr.alloc (.cells #[.int .i64 k] 3)).heap.size; simp; omega
      go_wp2_with (at_builtin; go_must (refine wpList_append_own _ rfl _ _ 49 rfl (w.heap.size + 1) 3 i0 _ 1 8 Tryz.underlying49 hi hz0 hz1 hz2 rfl (Nat.succ_pos 0) (.slice ao k cap) k (lv (List.range k)) ?e1 HROW.out ⟨wr.heap.size, 0, none⟩ 1 1 [.int .i64 k] ?e2 rfl (one_new wr _ _) ?e3 F1.out F2.out F3.out ?_); (case e1 => rfl); (case e2 => rfl); (case e3 => simp [Value.oneCell']); intro v' w1 hown hgrow _; obtain ⟨ao2, cap2, rfl⟩ := owns_slice hown; have hm := rlay_mid HL.out hgrow; have m0 := cell_of_block hm 4; have mf := frozen_of_block hm 4; have HST : Hid (RLay w (w1.setCell ⟨w.heap.size, 4, none⟩ (.slice ao2 (k + 1) cap2)) n room (k + 1) (.slice ao2 (k + 1) cap2)) := rlay_step HL.out hown hgrow; clear hm hown hgrow)
      exact ⟨⟨k + 1, _, hkn, by go_num, HST.out⟩, by simp [intOf]; omega⟩
    · obtain rfl : k = n := by omega
      go_wp2_with fail
      go_ret2
      refine ⟨w.heap.size, _, rfl, ⟨HL.out.blk, World.ownsRow_nil _ _ _ _, ?_, HOK.out, Nat.le_refl _⟩, HL.out.bel⟩
      have hrow := HL.out.row
      have e : (RSt.empty k room).ord.length = k := by simp [RSt.empty]
      rw [e]
      obtain ⟨h1, h2⟩ := hrow
      refine ⟨h1, h2.imp id ?_⟩
      rintro ⟨g, cap', cur, e1, e2, e3⟩
      exact ⟨g, cap', cur, e1, by omega, e3⟩

theorem rnew_bad (n room : Int) (w : World) (hbad : ¬ (1 ≤ n ∧ n ≤ 6 ∧ 1 ≤ room ∧ room ≤ 4000)) :
    Calls Tryz.prog 9 #[.int .i64 n, .int .i64 room] w fun e w' => e = .returned (.tuple #[.pointer none, .int .i64 1]) ∧ w' = w := by
  have hc : n < 1 ∨ (1 ≤ n ∧ 6 < n) ∨ (1 ≤ n ∧ n ≤ 6 ∧ room < 1) ∨ (1 ≤ n ∧ n ≤ 6 ∧ 1 ≤ room ∧ 4000 < room) := by omega
  clear hbad
  rcases hc with h | ⟨h1, h2⟩ | ⟨h1, h2, h3⟩ | ⟨h1, h2, h3, h4⟩
  all_goals
    go_enter Tryz.func9, Tryz.ntmps9
    go_wp2_with fail
    go_ret2
    exact ⟨rfl, rfl⟩
end Go.Proofs.YthoodkbdpnffdabGreatDoor

/-
  Own work: the document's answer: Release (a walk).
-/
namespace Go.Proofs.YthoodkbdpnffdabGreatDoor
open Go.RowKit
open Cho (U64 Tab full col)

def RSt.drop (r : RSt) (a : Nat) : RSt := { r with L := r.L.filter (fun p => p.1 != a) }
def RSt.release (r : RSt) (a : Nat) : RSt × Nat :=
  match r.get a with
  | some _ => (r.drop a, 0)
  | none => (r, 2)
theorem drop_ok {r : RSt} (h : RefOk r) (a : Nat) : RefOk (r.drop a) := by
  have hsub : (r.drop a).L.Sublist r.L := List.filter_sublist
  have h1 : (r.drop a).hs.Sublist r.hs := hsub.map _
  have h2 : (r.drop a).ts.Sublist r.ts := hsub.map _
  refine ⟨h.n1, h.n6, h.room, Nat.le_trans hsub.length_le h.len, h.given, fun x hx => h.hs x (h1.subset hx), h.nodup.sublist h1, fun x hx => h.tab x (h2.subset hx), h.ordl, h.ordm⟩

/-- A row of functions that was made since the world w. -/
structure LocF (w wr : World) (v : Value) (l : List (Nat × Nat)) : Prop where
  bel : Below w.heap.size w wr
  row : wr.ownsRow w.heap.size 115 2 v l.length (fnv l)
theorem locF_append {w wr w1 : World} {v v' : Value} {l : List (Nat × Nat)} {h t : Nat} {o : Obj} (hl : LocF w wr v l) (hr : w1.ownsRow w.heap.size 115 2 v' (l.length + 1) (fnv l ++ [.int .u32 (h : Nat), .int .u64 (t : Nat)])) (hg : (wr.alloc o).grownBy w1 v.ownBlock) :
    LocF w w1 v' (l ++ [(h, t)]) := by
  have hs := hl.bel.size
  refine ⟨(hl.bel.alloc hs o).grown hg (by simp; omega) (fun q hq => (hl.row.lt q hq).1), ?_⟩
  rw [fnv_snoc] at hr
  simpa using hr
theorem take_filter {l : List (Nat × Nat)} {i : Nat} (hi : i < l.length) (a : Nat) : (l.take (i + 1)).filter (fun p => p.1 != a) = if l[i].1 = a then (l.take i).filter (fun p => p.1 != a) else (l.take i).filter (fun p => p.1 != a) ++ [l[i]] := by
  rw [List.take_succ_eq_append_getElem hi, List.filter_append]
  by_cases h : l[i].1 = a
  · rw [if_pos h]; simp [h]
  · rw [if_neg h]; simp [h]

/-- The row of functions is another now. -/
theorem ref_row {B : Nat} {w w1 : World} {y : Nat} {r : RSt} {rv ov v : Value} {a : Nat} (h : RefAt B w y r rv ov) (hB : B ≤ w.heap.size) (hl : LocF w w1 v (r.drop a).L) :
    RStep B w (w1.setCell ⟨y, 2, none⟩ v) y rv ov (r.drop a) := by
  have hy := lt_of_block h.block
  have hb1 : w1.heap[y]? = _ := (hl.bel.block y hy).trans h.block
  have hg2 : ∀ g, v.ownBlock = some g → w.heap.size ≤ g := fun g hg => (hl.row.lt g hg).1
  refine ⟨⟨v, ⟨?_, ?_, ?_, drop_ok h.ok a, h.lo⟩, ?_⟩, ?_⟩
  · simp [World.setCell, Array.getElem?_modify, hb1, RSt.drop]
  · have h0 := owns_kept (w' := w1.setCell ⟨y, 2, none⟩ v) hl.row fun g hg => block_set_other (by have := hg2 g hg; simp; omega)
    obtain ⟨h1, h2⟩ := h0
    refine ⟨h1, h2.imp id ?_⟩
    rintro ⟨g, cap', cur, e1, e2, e3⟩
    exact ⟨g, cap', cur, e1, by omega, e3⟩
  · refine owns_kept h.ords fun k hk => ?_
    have hky : k ≠ y := by
      have := owns_ne h.ords h.block (by decide)
      intro e; subst e; exact this hk.symm
    rw [block_set_other hky]
    exact hl.bel.block k (h.ords.lt k hk).2
  · exact fun g hg => .inr (hg2 g hg)
  · refine ⟨hl.bel.os, hl.bel.tape, hl.bel.output, ?_, fun k hk hn => ?_⟩
    · have := hl.bel.size; simpa using this
    · rw [block_set_other (fun e => hn (.inl e))]
      exact hl.bel.block k hk

set_option maxRecDepth 100000 in
set_option maxHeartbeats 1000000 in
theorem rrelease_some (B y a f : Nat) (r : RSt) (rv ov : Value) (w : World) (hr : RefAt B w y r rv ov) (hB : B ≤ w.heap.size) (ha : r.get a = some f) :
    Calls Tryz.prog 31 #[.pointer (some ⟨y, 0, none⟩), .int .u32 a] w fun e w' => e = .returned (.int .i64 0) ∧ RStep B w w' y rv ov (r.drop a) := by
  obtain ⟨i1, hi1, hy0, hy1, hy2⟩ := info_parts Tryz.infoFn
  have HR : Hid (RefAt B w y r rv ov) := hr
  obtain ⟨j, hj, hja, _⟩ := get_some ha
  have HJ : Hid (r.L[j].1 = a) := hja
  have HNE : Hid (∀ i (hi : i < r.L.length), i ≠ j → r.L[i].1 ≠ a) := by
    intro i hi hij e
    apply hij
    have h1 : i < r.hs.length := by simpa [RSt.hs] using hi
    have h2 : j < r.hs.length := by simpa [RSt.hs] using hj
    exact (List.getElem_inj (h₀ := h1) (h₁ := h2) hr.ok.nodup).1 (by simp [RSt.hs, e, hja])
  have hlen := hr.ok.len
  have HTF : Hid (∀ i, (r.L.take i).filter (fun p => p.1 != a) = (r.L.take i).filter (fun p => p.1 != a)) := fun _ => rfl
  clear hr ha hja HTF
  go_enter Tryz.func31, Tryz.ntmps31
  go_wp2_with fail
  refine (rfind_yes B y a j r _ _ _ HR.out hj HJ.out).mono ?_
  rintro e w0 ⟨rfl, rfl⟩
  go_wp2_with fail
  go_loopw [6, 7] (fun x6 x7 wr => ∃ i : Nat, i ≤ r.L.length ∧ x7 = .int .i64 i ∧ Hid (LocF w0 wr x6 ((r.L.take i).filter (fun p => p.1 != a)))) (fun _ x7 _ => r.L.length - (intOf x7).toNat)
  case atStart => exact ⟨0, Nat.zero_le _, rfl, ⟨Below.refl _ _, World.ownsRow_nil _ _ _ _⟩⟩
  case round =>
    obtain ⟨i, hi, rfl, LR⟩ := hrel
    have HRr : Hid (RefAt B wr y r rv ov) := HR.out.below LR.out.bel
    have c2 := HRr.out.c2
    obtain ⟨al, capl, erv, hc⟩ := HRr.out.slice
    rw [erv] at c2
    obtain ⟨ao, cap, rfl⟩ := owns_slice LR.out.row
    by_cases hlt : i < r.L.length
    · obtain ⟨g, rfl, h1, h2⟩ := hc i hlt
      have HT : Hid ((r.L.take (i + 1)).filter (fun p => p.1 != a) = if r.L[i].1 = a then (r.L.take i).filter (fun p => p.1 != a) else (r.L.take i).filter (fun p => p.1 != a) ++ [r.L[i]]) := take_filter hlt a
      have hPl : ((r.L.take i).filter (fun p => p.1 != a)).length ≤ 30 := Nat.le_trans (List.length_filter_le _ _) (by rw [List.length_take]; omega)
      clear hc erv
      by_cases hij : i = j
      · have HE : Hid ((r.L.take (i + 1)).filter (fun p => p.1 != a) = (r.L.take i).filter (fun p => p.1 != a)) := HT.out.trans (if_pos (by subst hij; exact HJ.out))
        subst hij
        go_wp2_with fail
        refine ⟨⟨i + 1, hlt, by go_num, ?_⟩, by simp [intOf]; omega⟩
        rw [HE.out]; exact LR
      · have HE : Hid ((r.L.take (i + 1)).filter (fun p => p.1 != a) = (r.L.take i).filter (fun p => p.1 != a) ++ [r.L[i]]) := HT.out.trans (if_neg (HNE.out i hlt hij))
        have hbne : ((i : Int) != (j : Int)) = true := by simp; omega
        have EP : Hid (r.L[i] = (r.L[i].1, r.L[i].2)) := rfl
        generalize hX : r.L[i].1 = hh at *
        generalize hY : r.L[i].2 = tt at *
        generalize r.L[i] = pp at *
        clear hX hY
        generalize hPP : (r.L.take i).filter (fun p => p.1 != a) = P at *
        clear hPP
        have F1 : Hid (P.length + 1 ≤ maxLen) := by show P.length + 1 ≤ maxLen; unfold maxLen; omega
        have F2 : Hid ((P.length + 1) * 16 ≤ 140737488355328) := by show (P.length + 1) * 16 ≤ 140737488355328; omega
        have F3 : Hid (w0.heap.size ≤ (wr.alloc (.cells #[.int .u32 hh, .int .u64 tt] 115)).heap.size) := by show w0.heap.size ≤ (wr.alloc (.cells #[.int .u32 hh, .int .u64 tt] 115)).heap.size; have := LR.out.bel.size; simp; omega
        have O5 : Hid ((wr.alloc (.cells #[.int .u32 hh, .int .u64 tt] 115)).ownsRow w0.heap.size 115 2 (.slice ao P.length cap) P.length (fnv P)) := LR.out.row.alloc _
        go_wp2_with (at_builtin; go_must (refine wpList_append_own _ rfl _ _ 63 rfl w0.heap.size 115 i1 _ 2 16 Tryz.underlying63 hi1 hy0 hy1 hy2 rfl (Nat.succ_pos 1) (.slice ao P.length cap) P.length (fnv P) ?e1 O5.out ⟨wr.heap.size, 0, none⟩ 1 1 [.int .u32 hh, .int .u64 tt] ?e2 rfl (new_cells wr [.int .u32 hh, .int .u64 tt] _) ?e3 F1.out F2.out F3.out ?_); (case e1 => rfl); (case e2 => rfl); (case e3 => simp [Value.oneCell']); intro v' w3 hown hgrow _; have OW : Hid (LocF w0 w3 v' (P ++ [(hh, tt)])) := locF_append LR.out hown hgrow; clear hgrow hown)
        refine ⟨⟨i + 1, hlt, by go_num, ?_⟩, by simp [intOf]; omega⟩
        rw [HE.out, EP.out]; exact OW
    · have HK : Hid ((r.L.take i).filter (fun p => p.1 != a) = (r.drop a).L) := by show (r.L.take i).filter (fun p => p.1 != a) = r.L.filter (fun p => p.1 != a); rw [List.take_of_length_le (by omega)]
      have fz := frozen_of_block HRr.out.block 2
      have hyl := lt_of_block HRr.out.block
      clear hc
      have LE : Hid (LocF w0 wr (.slice ao ((r.L.take i).filter (fun p => p.1 != a)).length cap) (r.drop a).L) := by
        have := LR.out; rw [HK.out] at this ⊢; exact this
      clear LR
      go_wp2_with fail
      go_ret
      exact ⟨rfl, ref_row HR.out hB LE.out⟩

set_option maxHeartbeats 1000000 in
theorem rrelease_none (B y a : Nat) (r : RSt) (rv ov : Value) (w : World) (hr : RefAt B w y r rv ov) (ha : r.get a = none) :
    Calls Tryz.prog 31 #[.pointer (some ⟨y, 0, none⟩), .int .u32 a] w fun e w' => e = .returned (.int .i64 2) ∧ w' = w := by
  have HR : Hid (RefAt B w y r rv ov) := hr
  have HN : Hid (a ∉ r.hs) := get_none ha
  clear hr ha
  go_enter Tryz.func31, Tryz.ntmps31
  go_wp2_with fail
  refine (rfind_no B y a r _ _ _ HR.out HN.out).mono ?_
  rintro e w1 ⟨rfl, rfl⟩
  go_wp2_with fail
  go_ret
  exact ⟨rfl, rfl⟩
end Go.Proofs.YthoodkbdpnffdabGreatDoor
