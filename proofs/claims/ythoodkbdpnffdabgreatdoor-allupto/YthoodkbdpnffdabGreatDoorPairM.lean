/-
  Own work: the document's answer: one variable alone moved; whether there is a better order; whether a list is an order (walks).
-/
import Derived.Test.YthoodkbdpnffdabGreatDoorRefU
import Derived.Test.YthoodkbdpnffdabGreatDoorRefT
namespace Go.Proofs.YthoodkbdpnffdabGreatDoor
open Go.RowKit
open Cho (U64 Tab full col)

theorem mv_cap {w : World} {B g c : Nat} {xs : List Value} (h : w.ownsRow B 3 1 (.slice (some ⟨g, 0, none⟩) (0 + 1) c) (0 + 1) xs) : 1 ≤ c := by
  obtain ⟨_, ⟨e, _⟩ | ⟨_, cap', _, e, _, _, h, _⟩⟩ := h
  · simp at e
  · simp at e; omega

set_option maxRecDepth 100000 in
set_option maxHeartbeats 1000000 in
theorem rmoved_one (v : Value) (x : Nat) (w : World) (hl : RowI w v [x]) :
    Calls Tryz.prog 121 #[v, .int .i64 ((0 : Nat) : Int), .int .i64 ((0 : Nat) : Int)] w fun e w' => ∃ v', e = .returned v' ∧ LocI w w' v' [x] := by
  obtain ⟨i0, hi0, hz0, hz1, hz2⟩ := info_parts Tryz.infoInt
  obtain ⟨ao, cap, rfl, hc⟩ := hl
  obtain ⟨g, rfl, h0⟩ := hc 0 (by simp)
  simp only [List.getElem_cons_zero] at h0
  have HB : Hid (w.heap.size ≤ (w.alloc (.cells #[.int .i64 (x : Nat)] 3)).heap.size) := by show w.heap.size ≤ (w.alloc (.cells #[.int .i64 (x : Nat)] 3)).heap.size; simp
  clear hc
  go_enter Tryz.func121, Tryz.ntmps121
  go_wp2_with fail
  go_loopw [7, 8] (fun x7 x8 wr => ∃ i : Nat, i ≤ 1 ∧ x8 = .int .i64 i ∧ x7 = .slice none 0 0 ∧ wr = w) (fun _ x8 _ => 1 - (intOf x8).toNat)
  case atStart => exact ⟨0, by omega, rfl, rfl, rfl⟩
  case round =>
    obtain ⟨i, hi, rfl, rfl, rfl⟩ := hrel
    by_cases h1 : i < 1
    · obtain rfl : i = 0 := by omega
      go_wp2_with fail
      exact ⟨⟨1, by omega, rfl, rfl, trivial⟩, by simp [intOf]⟩
    · obtain rfl : i = 1 := by omega
      go_wp2_with (at_builtin; refine wpList_append_own (w := wr.alloc (.cells #[.int .i64 (x : Nat)] 3)) rfl _ _ 49 rfl wr.heap.size 3 i0 _ 1 8 Tryz.underlying49 hi0 hz0 hz1 hz2 rfl (Nat.succ_pos 0) (.slice none 0 0) 0 [] ?e1 (World.ownsRow_nil _ _ _ _) ⟨wr.heap.size, 0, none⟩ 1 1 [.int .i64 (x : Nat)] ?e2 rfl (new_cells wr [.int .i64 (x : Nat)] _) ?e3 (by decide) (by decide) HB.out ?_; (case e1 => rfl); (case e2 => rfl); (case e3 => simp [Value.oneCell']); intro v' w3 hown hgrow _; have OW : Hid (LocI wr w3 v' ([] ++ [x])) := loci_append (m := [x]) ⟨below_alloc _ _, World.ownsRow_nil _ _ _ _⟩ hown hgrow; obtain ⟨g3, c3, rfl, _, _⟩ := owns_form hown (by omega); have hc3 := mv_cap hown; clear hgrow hown)
      go_ret
      exact ⟨_, rfl, OW.out⟩
end Go.Proofs.YthoodkbdpnffdabGreatDoor

/-
  Own work: the document's answer: whether moving one variable leads to a better order (a walk).
-/
namespace Go.Proofs.YthoodkbdpnffdabGreatDoor
open Go.RowKit
open Cho (U64 Tab full col)

theorem rmoved_all (f t : Nat) (v : Value) (l : List Nat) (w : World) (hl : RowI w v l) (hf : f < l.length) (ht : t < l.length) (hll : l.length ≤ 6) :
    Calls Tryz.prog 121 #[v, .int .i64 f, .int .i64 t] w fun e w' => ∃ v', e = .returned v' ∧ LocI w w' v' (movedL l f t) := by
  by_cases h2 : 2 ≤ l.length
  · exact rmoved_calls f t v l w hl hf ht hll h2
  · obtain ⟨x, rfl⟩ := List.length_eq_one_iff.1 (show l.length = 1 by omega)
    obtain rfl : f = 0 := by simp at hf; omega
    obtain rfl : t = 0 := by simp at ht; omega
    exact rmoved_one v x w hl
/-- Is there a better order by moving one variable? -/
def RSt.better (r : RSt) : Bool := decide (∃ i, i < r.n ∧ ∃ k, k < r.n ∧ r.tog (movedL r.ord i k) < r.tog r.ord)

set_option maxRecDepth 100000 in
set_option maxHeartbeats 1000000 in
theorem rbetter_calls (B y : Nat) (r : RSt) (rv ov : Value) (w : World) (hr : RefAt B w y r rv ov) :
    Calls Tryz.prog 106 #[.pointer (some ⟨y, 0, none⟩)] w fun e w' => e = .returned (.bool r.better) ∧ Below w.heap.size w w' := by
  have HR : Hid (RefAt B w y r rv ov) := hr
  have c4 := hr.c4
  have hn := hr.ok.n6
  have hol := hr.ok.ordl
  have HU : Hid (∀ ord, r.tog ord ≤ 4000) := fun ord => outTo_small hr.ok.n6 _ _ (by have := hr.ok.len; simp [RSt.ts]; omega) _ (Nat.le_refl _)
  have KT : Hid (Calls Tryz.prog 103 #[.pointer (some ⟨y, 0, none⟩), ov] w fun e w' => e = .returned (.int .i64 (r.tog r.ord : Nat)) ∧ Below w.heap.size w w') := rtogether_calls B y r rv ov ov r.ord w hr hr.ordI hol hr.ok.ordm
  have KM : Hid (∀ W i k, Below w.heap.size w W → i < r.n → k < r.n → Calls Tryz.prog 121 #[ov, .int .i64 (i : Nat), .int .i64 (k : Nat)] W fun e w' => ∃ v', e = .returned v' ∧ LocI W w' v' (movedL r.ord i k)) := fun W i k hW hi hk => rmoved_all i k ov r.ord W (hr.below hW).ordI (by rw [hol]; exact hi) (by rw [hol]; exact hk) (by rw [hol]; exact hn)
  have KG : Hid (∀ W v i k, Below w.heap.size w W → i < r.n → k < r.n → RowI W v (movedL r.ord i k) → Calls Tryz.prog 103 #[.pointer (some ⟨y, 0, none⟩), v] W fun e w' => e = .returned (.int .i64 (r.tog (movedL r.ord i k) : Nat)) ∧ Below W.heap.size W w') := fun W v i k hW hi hk hv =>
    rtogether_calls B y r rv ov v _ W (hr.below hW) hv (by rw [movedL_len _ _ _ (by rw [hol]; exact hi), hol]) (fun x hx => hr.ok.ordm x (movedL_mem (by rw [hol]; exact hi) hx))
  have HBT : Hid (r.better = decide (∃ i, i < r.n ∧ ∃ k, k < r.n ∧ r.tog (movedL r.ord i k) < r.tog r.ord)) := rfl
  clear hr hol
  go_enter Tryz.func106, Tryz.ntmps106
  go_wp2_with fail
  refine KT.out.mono ?_
  rintro e w1 ⟨rfl, b1⟩
  have B1 : Hid (Below w.heap.size w w1) := b1
  clear b1 KT
  have hT := HU.out r.ord
  generalize r.tog r.ord = T at *
  go_wp2_with fail
  go_loopw [4] (fun x4 wr => ∃ i : Nat, i ≤ r.n ∧ x4 = .int .i64 i ∧ Hid (Below w.heap.size w wr) ∧ Hid (∀ a, a < i → ∀ k, k < r.n → ¬ r.tog (movedL r.ord a k) < T)) (fun x4 _ => r.n - (intOf x4).toNat)
  case atStart => exact ⟨0, Nat.zero_le _, rfl, B1, fun a ha => absurd ha (Nat.not_lt_zero _)⟩
  case round =>
    obtain ⟨i, hi, rfl, BR, HN⟩ := hrel
    have c0 := (HR.out.below BR.out).c0
    by_cases hlt : i < r.n
    · go_wp2_with fail
      go_loopw [5] (fun x5 wq => ∃ k : Nat, k ≤ r.n ∧ x5 = .int .i64 k ∧ Hid (Below w.heap.size w wq) ∧ Hid (∀ b, b < k → ¬ r.tog (movedL r.ord i b) < T)) (fun x5 _ => r.n - (intOf x5).toNat)
      case atStart => exact ⟨0, Nat.zero_le _, rfl, BR, fun a ha => absurd ha (Nat.not_lt_zero _)⟩
      case round =>
        obtain ⟨k, hk, rfl, BQ, HM⟩ := hrel
        clear c0
        have c0 := (HR.out.below BQ.out).c0
        have c4' := (HR.out.below BQ.out).c4
        by_cases hkl : k < r.n
        · go_wp2_with fail
          refine (KM.out _ i k BQ.out hlt hkl).mono ?_
          rintro e w2 ⟨v2, rfl, l2⟩
          have L2 : Hid (LocI wr w2 v2 (movedL r.ord i k)) := l2
          have B2 : Hid (Below w.heap.size w w2) := below_trans BQ.out l2.bel
          clear l2
          go_wp2_with fail
          refine (KG.out _ v2 i k B2.out hlt hkl L2.out.rowI).mono ?_
          rintro e w3 ⟨rfl, b3⟩
          have B3 : Hid (Below w.heap.size w w3) := below_trans B2.out b3
          clear b3
          have hU := HU.out (movedL r.ord i k)
          by_cases hbt : r.tog (movedL r.ord i k) < T
          · have HE : Hid (r.better = true) := HBT.out.trans (decide_eq_true ⟨i, hlt, k, hkl, hbt⟩)
            generalize r.tog (movedL r.ord i k) = X at *
            go_wp2_with fail
            go_ret
            rw [HE.out]
            exact ⟨rfl, B3.out⟩
          · have HM' : Hid (∀ b, b < k + 1 → ¬ r.tog (movedL r.ord i b) < T) := by
              intro b hb
              by_cases e : b = k
              · subst e; exact hbt
              · exact HM.out b (by omega)
            generalize r.tog (movedL r.ord i k) = X at *
            go_wp2_with fail
            exact ⟨⟨k + 1, hkl, by go_num, B3, HM'⟩, by simp [intOf]; omega⟩
        · have HN' : Hid (∀ a, a < i + 1 → ∀ k, k < r.n → ¬ r.tog (movedL r.ord a k) < T) := by
            intro a ha b hb
            by_cases e : a = i
            · subst e; exact HM.out b (by omega)
            · exact HN.out a (by omega) b hb
          go_wp2_with fail
          exact ⟨⟨i + 1, hlt, by go_num, BQ, HN'⟩, by simp [intOf]; omega⟩
    · have HE : Hid (r.better = false) := HBT.out.trans (decide_eq_false (by
        rintro ⟨a, ha, k, hk, hb⟩
        exact HN.out a (by omega) k hk hb))
      go_wp2_with fail
      go_ret
      rw [HE.out]
      exact ⟨rfl, BR.out⟩
end Go.Proofs.YthoodkbdpnffdabGreatDoor

/-
  Own work: the document's answer: whether a list is an order; what Sift may lead to (walks).
-/
namespace Go.Proofs.YthoodkbdpnffdabGreatDoor
open Go.RowKit
open Cho (U64 Tab full col)

/-- The variables of the first i of a list, as a set. -/
def seenTo (l : List Nat) : Nat → Nat
  | 0 => 0
  | i + 1 => Cho.put (seenTo l i) (l.getD i 0) true
theorem seenTo_bit (l : List Nat) (x : Nat) : ∀ i, i ≤ l.length → ((seenTo l i).testBit x = true ↔ x ∈ l.take i) := by
  intro i
  induction i with
  | zero => intro _; simp [seenTo]
  | succ i ih =>
    intro hi
    have hil : i < l.length := by omega
    simp only [seenTo]
    rw [Cho.put_testBit, List.take_succ_eq_append_getElem hil, List.mem_append, show l.getD i 0 = l[i] from by simp [List.getD, hil]]
    by_cases e : x = l[i]
    · simp [e]
    · rw [if_neg e, ih (by omega)]; simp [e]
theorem seenTo_lt {l : List Nat} (hm : ∀ v ∈ l, v < 6) : ∀ i, i ≤ l.length → seenTo l i < 64 := by
  intro i
  induction i with
  | zero => intro _; simp [seenTo]
  | succ i ih =>
    intro hi
    have hil : i < l.length := by omega
    simp only [seenTo]
    rw [show l.getD i 0 = l[i] from by simp [List.getD, hil]]
    exact Cho.put_lt _ _ 6 true (hm _ (List.getElem_mem hil)) (ih (by omega))

set_option maxRecDepth 100000 in
set_option maxHeartbeats 1000000 in
theorem rorder_calls (s n : Nat) (v : Value) (l : List Nat) (w : World) (h0 : w.cell? ⟨s, 0, none⟩ = some (.int .i64 n)) (hn : n ≤ 6) (hl : RowI w v l) (hlen : l.length = n) (hm : ∀ x ∈ l, x < n) (hnd : l.Nodup) :
    Calls Tryz.prog 105 #[.pointer (some ⟨s, 0, none⟩), v] w fun e w' => e = .returned (.bool true) ∧ w' = w := by
  subst hlen
  have HM : Hid (∀ x ∈ l, x < l.length) := hm
  have HS : Hid (∀ i, i ≤ l.length → seenTo l i < 64) := seenTo_lt (fun v hv => by have := hm v hv; omega)
  have HB : Hid (∀ i (hi : i < l.length), (seenTo l i).testBit l[i] = false) := by
    intro i hi
    rw [Bool.eq_false_iff]
    intro hb
    have hmem := (seenTo_bit l l[i] i (by omega)).1 hb
    have hsplit : l.take (i + 1) = l.take i ++ [l[i]] := List.take_succ_eq_append_getElem hi
    have hnd2 : (l.take (i + 1)).Nodup := hnd.sublist (List.take_sublist _ _)
    rw [hsplit, List.nodup_append] at hnd2
    exact hnd2.2.2 _ hmem _ (by simp) rfl
  obtain ⟨ao, cap, rfl, hc⟩ := hl
  have HC : Hid (∀ i (hi : i < l.length), ∃ g, ao = some ⟨g, 0, none⟩ ∧ w.cell? ⟨g, i, none⟩ = some (.int .i64 (l[i] : Nat))) := hc
  have H0 : Hid (w.cell? ⟨s, 0, none⟩ = some (.int .i64 l.length)) := h0
  clear hc hm hnd
  go_enter Tryz.func105, Tryz.ntmps105
  go_wp2_with fail
  go_loopw [5, 6] (fun x5 x6 wr => ∃ i : Nat, i ≤ l.length ∧ x6 = .int .i64 i ∧ x5 = .int .i64 (seenTo l i : Nat) ∧ wr = w) (fun _ x6 _ => l.length - (intOf x6).toNat)
  case atStart => exact ⟨0, Nat.zero_le _, rfl, rfl, rfl⟩
  case round =>
    obtain ⟨i, hi, rfl, rfl, rfl⟩ := hrel
    by_cases hlt : i < l.length
    · obtain ⟨g, rfl, hcell⟩ := HC.out i hlt
      have hx := HM.out _ (List.getElem_mem hlt)
      have hs64 := HS.out i hi
      have HBI : Hid ((seenTo l i).testBit l[i] = false) := HB.out i hlt
      have HE : Hid (seenTo l (i + 1) = Cho.put (seenTo l i) l[i] true) := by
        show Cho.put (seenTo l i) (l.getD i 0) true = _
        rw [show l.getD i 0 = l[i] from by simp [List.getD, hlt]]
      generalize l[i] = x at *
      generalize seenTo l i = S at *
      have KV : Hid (Calls Tryz.prog 71 #[.pointer (some ⟨s, 0, none⟩), .int .i64 x] wr fun e w' => e = .returned (.bool true) ∧ w' = wr) := rvariable_yes s l.length x wr H0.out ⟨by omega, by omega⟩
      have KB : Hid (Calls Tryz.prog 73 #[.int .i64 S, .int .i64 x] wr fun e w' => e = .returned (.bool false) ∧ w' = wr) := by have := rbit_calls S x wr (by omega); rw [HBI.out] at this; exact this
      go_wp2_with fail
      refine KV.out.mono ?_
      rintro e w1 ⟨rfl, rfl⟩
      go_wp2_with fail
      refine KB.out.mono ?_
      rintro e w2 ⟨rfl, rfl⟩
      go_wp2_with fail
      refine (rwith_calls S x true _ hs64 (by omega)).mono ?_
      rintro e w3 ⟨rfl, rfl⟩
      go_wp2_with fail
      refine ⟨⟨i + 1, hlt, by go_num, ?_, trivial⟩, by simp [intOf]; omega⟩
      rw [HE.out]
    · go_wp2_with fail
      go_ret
      exact ⟨ret_bool (by simp), rfl⟩

/-- May Sift lead to this order? -/
def mayB (x was : Nat) (b : Bool) : Bool := decide (x < was) || (decide (x = was) && !b)
def RSt.mayBy (r : RSt) (l : List Nat) : Bool := mayB (r.tog l) (r.tog r.ord) r.better

set_option maxRecDepth 100000 in
set_option maxHeartbeats 1000000 in
theorem rsifted_calls (B y : Nat) (r : RSt) (rv ov v : Value) (l : List Nat) (w : World) (hr : RefAt B w y r rv ov) (hl : RowI w v l) (hlen : l.length = r.n) (hm : ∀ x ∈ l, x < r.n) (hnd : l.Nodup) :
    Calls Tryz.prog 60 #[.pointer (some ⟨y, 0, none⟩), v] w fun e w' => e = .returned (.bool (r.mayBy l)) ∧ RStepO B w w' y rv ov (r.by l) := by
  obtain ⟨i0, hi0, hz0, hz1, hz2⟩ := info_parts Tryz.infoInt
  have HR : Hid (RefAt B w y r rv ov) := hr
  have HL : Hid (RowI w v l) := hl
  have hn := hr.ok.n6
  have hn1 := hr.ok.n1
  have c4 := hr.c4
  have HU : Hid (∀ ord, r.tog ord ≤ 4000) := fun ord => outTo_small hr.ok.n6 _ _ (by have := hr.ok.len; simp [RSt.ts]; omega) _ (Nat.le_refl _)
  have hU1 := HU.out r.ord
  have hU2 := HU.out l
  have KO : Hid (Calls Tryz.prog 105 #[.pointer (some ⟨y, 0, none⟩), v] w fun e w' => e = .returned (.bool true) ∧ w' = w) := rorder_calls y r.n v l w hr.c0 hn hl hlen hm hnd
  have KW : Hid (Calls Tryz.prog 103 #[.pointer (some ⟨y, 0, none⟩), ov] w fun e w' => e = .returned (.int .i64 (r.tog r.ord : Nat)) ∧ Below w.heap.size w w') := rtogether_calls B y r rv ov ov r.ord w hr hr.ordI hr.ok.ordl hr.ok.ordm
  have KN : Hid (∀ W, Below w.heap.size w W → Calls Tryz.prog 103 #[.pointer (some ⟨y, 0, none⟩), v] W fun e w' => e = .returned (.int .i64 (r.tog l : Nat)) ∧ Below W.heap.size W w') := fun W hW => rtogether_calls B y r rv ov v l W (hr.below hW) (hl.below hW) hlen hm
  have KB : Hid (∀ W, Below w.heap.size w W → Calls Tryz.prog 106 #[.pointer (some ⟨y, 0, none⟩)] W fun e w' => e = .returned (.bool r.better) ∧ Below W.heap.size W w') := fun W hW => rbetter_calls B y r rv ov W (hr.below hW)
  have FIN : Hid (∀ W W' v', Below w.heap.size w W → LocI W W' v' l → RStepO B w (W'.setCell ⟨y, 4, none⟩ v') y rv ov (r.by l)) := fun W W' v' hW hL => by
    refine ref_ord hr (below_trans hW hL.bel) ?_ hlen hm
    obtain ⟨h1, h2⟩ := hL.row
    refine ⟨h1, h2.imp id ?_⟩
    rintro ⟨g, cap', cur, e1, e2, e3⟩
    exact ⟨g, cap', cur, e1, Nat.le_trans hW.size e2, e3⟩
  have HMB : Hid (r.mayBy l = mayB (r.tog l) (r.tog r.ord) r.better) := rfl
  obtain ⟨ao, cap, rfl, hc⟩ := hl
  obtain ⟨g, rfl, hc00⟩ := hc 0 (by omega)
  clear hc00
  have hl6 : l.length ≤ 6 := by omega
  have hl1 : 1 ≤ l.length := by omega
  have HC : Hid (∀ W, Below w.heap.size w W → ∀ j u, (lv l)[j]? = some u → W.cell? ((⟨g, 0, none⟩ : Addr).add j) = some u) := by
    intro W hW j u hu
    have hj : j < l.length := by
      apply Classical.byContradiction
      intro hn
      rw [List.getElem?_eq_none (by simp [lv]; omega)] at hu; cases hu
    obtain ⟨g', e, h1⟩ := hc j hj
    simp only [Option.some.injEq, Addr.mk.injEq, and_true] at e
    subst e
    rw [Addr.add_mid, Nat.zero_add, cell_below h1 hW]
    simpa [lv, hj] using hu
  clear hc hr hlen hm hnd
  have F1 : Hid (0 + l.length ≤ maxLen) := by show 0 + l.length ≤ maxLen; unfold maxLen; omega
  have F2 : Hid ((0 + l.length) * 8 ≤ 140737488355328) := by show (0 + l.length) * 8 ≤ 140737488355328; omega
  have F4 : Hid (∀ u ∈ lv l, u.oneCell' = true) := lvI_one l
  have F5 : Hid ((lv l).length = l.length * 1) := by show (lv l).length = l.length * 1; simp [lv]
  generalize r.tog r.ord = T0 at *
  generalize r.tog l = T1 at *
  generalize hbb : r.better = bt at *
  clear hbb
  go_enter Tryz.func60, Tryz.ntmps60
  go_wp2_with fail
  refine KO.out.mono ?_
  rintro e w0 ⟨rfl, rfl⟩
  go_wp2_with fail
  refine KW.out.mono ?_
  rintro e w1 ⟨rfl, b1⟩
  have B1 : Hid (Below w0.heap.size w0 w1) := b1
  clear b1
  go_wp2_with fail
  refine (KN.out _ B1.out).mono ?_
  rintro e w2 ⟨rfl, b2⟩
  have B2 : Hid (Below w0.heap.size w0 w2) := below_trans B1.out b2
  clear b2
  go_wp2_with fail
  refine (KB.out _ B2.out).mono ?_
  rintro e w3 ⟨rfl, b3⟩
  have B3 : Hid (Below w0.heap.size w0 w3) := below_trans B2.out b3
  clear b3
  have HEND : Hid (∀ q : Bool, q = mayB T1 T0 bt → q = r.mayBy l) := fun q hq => hq.trans HMB.out.symm
  have fzy : ∀ W, Below w0.heap.size w0 W → W.frozen? ⟨y, 4, none⟩ = false ∧ y < W.heap.size ∧ W.cell? ⟨y, 4, none⟩ = some ov := fun W hW => ⟨frozen_of_block (HR.out.below hW).block 4, lt_of_block (HR.out.below hW).block, (HR.out.below hW).c4⟩
  have FZ : Hid (∀ W, Below w0.heap.size w0 W → W.frozen? ⟨y, 4, none⟩ = false ∧ y < W.heap.size ∧ W.cell? ⟨y, 4, none⟩ = some ov) := fzy
  clear fzy
  by_cases hlt : T1 < T0
  · have HM : Hid (mayB T1 T0 bt = true) := by show mayB T1 T0 bt = true; simp [mayB, hlt]
    go_wp2_with (at_builtin; go_must (refine wpList_append_own _ rfl _ _ 49 rfl w3.heap.size 3 i0 _ 1 8 Tryz.underlying49 hi0 hz0 hz1 hz2 rfl (Nat.succ_pos 0) (.slice none 0 0) 0 [] ?e1 (World.ownsRow_nil _ _ _ _) ⟨g, 0, none⟩ l.length cap (lv l) ?e2 F5.out (HC.out w3 B3.out) F4.out F1.out F2.out (Nat.le_refl _) ?_); (case e1 => rfl); (case e2 => rfl); intro v' w4 hown hgrow _; obtain ⟨g1, cap1, rfl, l1, hB1, _⟩ := loci_copy (by omega) hown hgrow; have L1 : Hid (LocI w3 w4 (.slice (some ⟨g1, 0, none⟩) l.length cap1) l) := l1; have hz := FZ.out w4 (below_trans B3.out l1.bel); have z1 := hz.1; have z2 := hz.2.1; have z3 := hz.2.2; clear hown hgrow l1 hz)
    all_goals
      go_ret
      refine ⟨ret_bool (HEND.out _ ?_), FIN.out w3 w4 _ B3.out L1.out⟩
      rw [HM.out]
      try rfl
  · by_cases heq : T1 = T0
    · have hb1 : ((T1 : Int) == (T0 : Int)) = true := by simp [heq]
      cases bt
      · have HM : Hid (mayB T1 T0 false = true) := by show mayB T1 T0 false = true; simp [mayB, heq]
        go_wp2_with (at_builtin; go_must (refine wpList_append_own _ rfl _ _ 49 rfl w3.heap.size 3 i0 _ 1 8 Tryz.underlying49 hi0 hz0 hz1 hz2 rfl (Nat.succ_pos 0) (.slice none 0 0) 0 [] ?e1 (World.ownsRow_nil _ _ _ _) ⟨g, 0, none⟩ l.length cap (lv l) ?e2 F5.out (HC.out w3 B3.out) F4.out F1.out F2.out (Nat.le_refl _) ?_); (case e1 => rfl); (case e2 => rfl); intro v' w4 hown hgrow _; obtain ⟨g1, cap1, rfl, l1, hB1, _⟩ := loci_copy (by omega) hown hgrow; have L1 : Hid (LocI w3 w4 (.slice (some ⟨g1, 0, none⟩) l.length cap1) l) := l1; have hz := FZ.out w4 (below_trans B3.out l1.bel); have z1 := hz.1; have z2 := hz.2.1; have z3 := hz.2.2; clear hown hgrow l1 hz)
        all_goals
          go_ret
          refine ⟨ret_bool (HEND.out _ ?_), FIN.out w3 w4 _ B3.out L1.out⟩
          rw [HM.out]
          try rfl
      · have HM : Hid (mayB T1 T0 true = false) := by show mayB T1 T0 true = false; simp [mayB, hlt]
        go_wp2_with (at_builtin; go_must (refine wpList_append_own _ rfl _ _ 49 rfl w3.heap.size 3 i0 _ 1 8 Tryz.underlying49 hi0 hz0 hz1 hz2 rfl (Nat.succ_pos 0) (.slice none 0 0) 0 [] ?e1 (World.ownsRow_nil _ _ _ _) ⟨g, 0, none⟩ l.length cap (lv l) ?e2 F5.out (HC.out w3 B3.out) F4.out F1.out F2.out (Nat.le_refl _) ?_); (case e1 => rfl); (case e2 => rfl); intro v' w4 hown hgrow _; obtain ⟨g1, cap1, rfl, l1, hB1, _⟩ := loci_copy (by omega) hown hgrow; have L1 : Hid (LocI w3 w4 (.slice (some ⟨g1, 0, none⟩) l.length cap1) l) := l1; have hz := FZ.out w4 (below_trans B3.out l1.bel); have z1 := hz.1; have z2 := hz.2.1; have z3 := hz.2.2; clear hown hgrow l1 hz)
        all_goals
          go_ret
          refine ⟨ret_bool (HEND.out _ ?_), FIN.out w3 w4 _ B3.out L1.out⟩
          rw [HM.out]
          try rfl
    · have hb1 : ((T1 : Int) == (T0 : Int)) = false := by simp; omega
      have HM : Hid (mayB T1 T0 bt = false) := by show mayB T1 T0 bt = false; simp [mayB, hlt, heq]
      go_wp2_with (at_builtin; go_must (refine wpList_append_own _ rfl _ _ 49 rfl w3.heap.size 3 i0 _ 1 8 Tryz.underlying49 hi0 hz0 hz1 hz2 rfl (Nat.succ_pos 0) (.slice none 0 0) 0 [] ?e1 (World.ownsRow_nil _ _ _ _) ⟨g, 0, none⟩ l.length cap (lv l) ?e2 F5.out (HC.out w3 B3.out) F4.out F1.out F2.out (Nat.le_refl _) ?_); (case e1 => rfl); (case e2 => rfl); intro v' w4 hown hgrow _; obtain ⟨g1, cap1, rfl, l1, hB1, _⟩ := loci_copy (by omega) hown hgrow; have L1 : Hid (LocI w3 w4 (.slice (some ⟨g1, 0, none⟩) l.length cap1) l) := l1; have hz := FZ.out w4 (below_trans B3.out l1.bel); have z1 := hz.1; have z2 := hz.2.1; have z3 := hz.2.2; clear hown hgrow l1 hz)
      all_goals
        go_ret
        refine ⟨ret_bool (HEND.out _ ?_), FIN.out w3 w4 _ B3.out L1.out⟩
        rw [HM.out]
        try rfl
end Go.Proofs.YthoodkbdpnffdabGreatDoor

/-
  Own work: the program's store and the document's answer say the same behind Swap and Sift (plain mathematics).
-/
namespace Go.Proofs.YthoodkbdpnffdabGreatDoor
open Cho (U64 Tab full col Nd Red Dg DgOk Odr)

/-- Moved by the document's words is moved. -/
theorem movedL_eq (l : List Nat) (f t : Nat) (hl : l.length ≤ 6) (hf : f < l.length) (ht : t < l.length) : Cho.mv l f t = movedL l f t := by
  refine Cho.six (P := fun l f t => Cho.mv l f t = movedL l f t) (fun _ => rfl) (fun _ _ => ⟨rfl, rfl, rfl, rfl⟩) ?_ ?_ ?_ ?_ l f t hl hf ht
  · intro a b c f t hf ht
    rcases (by omega : f = 0 ∨ f = 1 ∨ f = 2) with rfl | rfl | rfl <;> rcases (by omega : t = 0 ∨ t = 1 ∨ t = 2) with rfl | rfl | rfl <;> rfl
  · intro a b c d f t hf ht
    rcases (by omega : f = 0 ∨ f = 1 ∨ f = 2 ∨ f = 3) with rfl | rfl | rfl | rfl <;> rcases (by omega : t = 0 ∨ t = 1 ∨ t = 2 ∨ t = 3) with rfl | rfl | rfl | rfl <;> rfl
  · intro a b c d e f t hf ht
    rcases (by omega : f = 0 ∨ f = 1 ∨ f = 2 ∨ f = 3 ∨ f = 4) with rfl | rfl | rfl | rfl | rfl <;> rcases (by omega : t = 0 ∨ t = 1 ∨ t = 2 ∨ t = 3 ∨ t = 4) with rfl | rfl | rfl | rfl | rfl <;> rfl
  · intro a b c d e g f t hf ht
    rcases (by omega : f = 0 ∨ f = 1 ∨ f = 2 ∨ f = 3 ∨ f = 4 ∨ f = 5) with rfl | rfl | rfl | rfl | rfl | rfl <;> rcases (by omega : t = 0 ∨ t = 1 ∨ t = 2 ∨ t = 3 ∨ t = 4 ∨ t = 5) with rfl | rfl | rfl | rfl | rfl | rfl <;> rfl

section
variable {st : St} {r : RSt}
/-- How many nodes by an order. -/
theorem Sim.tog (h : Sim st r) {ord : List Nat} (o : Odr st.n ord) : r.tog ord = Cho.cnt' st.n st.dg.tabs ord := by
  unfold RSt.tog
  rw [h.n, ← h.tabs]
  exact (cnt_live h.inv h.cl o r.hs (fun a ha => (h.live a).2 ha) (fun a ha => (h.live a).1 ha)).symm
theorem sim_take (h : Sim st r) {d : Dg} (hs : Cho.Same st.n st.dg d) (hf : d.ns.length ≤ 4000) : Sim (st.take d) (r.by d.ord) := by
  have ht := taken h.inv h.cl hs
  have ho := hs.ok.o
  refine ⟨ht.inv, ht.cl, hf, by_ok h.ok (by rw [h.n, ho.len]) (fun v hv => by rw [h.n]; exact (ho.mem v).1 hv), h.n, h.room, h.given, rfl, fun a => ?_⟩
  have hg : (r.by d.ord).get a = r.get a := rfl
  rw [hg, ← h.get a]
  unfold St.get
  have e : (st.take d).slot a = st.slot a := rfl
  rw [e]
  split
  · rename_i hl; rw [ht.tab a hl]
  · rfl
/-- Swap, as the program does it. -/
def St.swap (st : St) (level : Int) : St × Nat :=
  if 0 ≤ level ∧ level ≤ (st.n : Int) - 2 then
    if (st.swp level.toNat).ns.length ≤ st.room then (st.swp level.toNat, 0) else (st, 4)
  else (st, 1)
theorem Sim.swap (h : Sim st r) (level : Int) : (st.swap level).2 = (r.swap level).2 ∧ Sim (st.swap level).1 (r.swap level).1 := by
  unfold St.swap RSt.swap
  rw [h.n]
  by_cases hl : 0 ≤ level ∧ level ≤ (st.n : Int) - 2
  · rw [if_pos hl, if_pos hl]
    have hk : level.toNat + 1 < st.n := by omega
    obtain ⟨hs, hf, ho⟩ := swp_same h.inv hk
    have e1 : swapL r.ord level.toNat = (st.dg.move level.toNat (level.toNat + 1)).ord := by
      rw [h.ord]; exact ho.symm
    have e2 : r.tog (swapL r.ord level.toNat) = (st.swp level.toNat).ns.length := by
      rw [e1, h.tog hs.ok.o]; exact hs.few.symm
    rw [e2, h.room]
    by_cases hr : (st.swp level.toNat).ns.length ≤ st.room
    · rw [if_pos hr, if_pos hr]
      refine ⟨rfl, ?_⟩
      show Sim (st.swp level.toNat) (r.by (swapL r.ord level.toNat))
      rw [e1]
      exact sim_take h hs (by have h1 : (st.dg.move level.toNat (level.toNat + 1)).ns.length ≤ 1890 := hf; omega)
    · rw [if_neg hr, if_neg hr]; exact ⟨rfl, h⟩
  · rw [if_neg hl, if_neg hl]; exact ⟨rfl, h⟩
theorem Sim.sift (h : Sim st r) : r.mayBy st.sifted.ord = true ∧ Sim st.sifted (r.by st.sifted.ord) := by
  obtain ⟨hs, h1, h2⟩ := Cho.sift_ok h.inv.dg
  have hfew : st.dg.sift.ns.length ≤ 4000 := by
    have hc := h.inv.dg.count h.cl.full
    have hf : st.dg.ns.length ≤ 4000 := h.few
    omega
  refine ⟨?_, sim_take h hs hfew⟩
  have e1 : r.tog st.sifted.ord = st.dg.sift.ns.length := (h.tog hs.ok.o).trans hs.few.symm
  have e2 : r.tog r.ord = Cho.cnt' st.n st.dg.tabs st.dg.ord := by rw [h.ord]; exact h.tog h.inv.odr
  unfold RSt.mayBy mayB
  rw [e1, e2]
  by_cases hlt : st.dg.sift.ns.length < Cho.cnt' st.n st.dg.tabs st.dg.ord
  · simp [hlt]
  · have heq : st.dg.sift.ns.length = Cho.cnt' st.n st.dg.tabs st.dg.ord := by omega
    have hb : r.better = false := by
      unfold RSt.better
      rw [decide_eq_false_iff_not]
      rintro ⟨i, hi, k, hk, hlt2⟩
      rw [h.n] at hi hk
      have hol : r.ord.length = st.n := by rw [h.ord]; exact h.inv.len
      rw [← movedL_eq r.ord i k (by rw [hol]; exact h.inv.n6) (by rw [hol]; exact hi) (by rw [hol]; exact hk), e2, h.ord, h.tog (h.inv.odr.mv hi hk)] at hlt2
      have := h2 i k hi hk
      have e3 : st.dg.ord = st.ord := rfl
      rw [e3] at this heq hlt2
      omega
    rw [hb]; simp [heq]
theorem swap_given (r : RSt) (level : Int) : (r.swap level).1.given = r.given := by
  unfold RSt.swap
  split
  · split <;> rfl
  · rfl
end
end Go.Proofs.YthoodkbdpnffdabGreatDoor

/-
  Own work: a store of the program beside one of the document's answer: what keeps them as they are.
-/
namespace Go.Proofs.YthoodkbdpnffdabGreatDoor
open Go.RowKit
open Cho (U64 Tab full col Nd Red)

/-- The program's store stays, where blocks of its kinds do. -/
theorem Has.ch {F : Nat → Prop} {w w' : World} {s : Nat} {st : St} (h : Has w s st) (hc : Ch F w w') (h0 : ¬ F 0) (hs : ¬ F s)
    (hF : ∀ k c T, w.heap[k]? = some (.cells c T (0, 0)) → T = 3 ∨ T = 153 → ¬ F k) : Has w' s st := by
  refine ⟨?_, h.inv, h.few⟩
  obtain ⟨hp, ⟨go, capo, nv, B', hb, ho, ⟨cur, hcur⟩, hcap, hrow⟩, h1, h2, h3, h4, h5, h6, h7, hcol⟩ := h.lies
  have kgo : w'.heap[go]? = w.heap[go]? := hc.block go (lt_of_block hcur) (hF go _ _ hcur (.inl rfl))
  refine ⟨hp, ⟨go, capo, nv, B', (hc.block s (lt_of_block hb) hs).trans hb, ?_, ⟨cur, kgo.trans hcur⟩, hcap, ?_⟩, h1, h2, h3, h4, h5, h6, h7, ?_⟩
  · exact fun i hi => (World.cell?_of_block (a := ⟨go, i, none⟩) kgo).trans (ho i hi)
  · refine owns_kept hrow fun g hgb => ?_
    obtain ⟨_, ⟨rfl, _⟩ | ⟨g', cap, cu, rfl, _, hg2, _⟩⟩ := hrow
    · simp [Value.ownBlock] at hgb
    · obtain rfl : g' = g := by simpa [Value.ownBlock] using hgb
      exact hc.block g' (lt_of_block hg2) (hF g' _ _ hg2 (.inr rfl))
  · exact fun i hi => (World.cell?_of_block (a := ⟨0, i, none⟩) (hc.block 0 (cols_pos hcol) h0)).trans (hcol i hi)
/-- The document's store stays. -/
theorem RefAt.ch {F : Nat → Prop} {B : Nat} {w w' : World} {y : Nat} {r : RSt} {rv ov : Value} (h : RefAt B w y r rv ov) (hc : Ch F w w') (hy : ¬ F y) (hr : ∀ g, rv.ownBlock = some g → ¬ F g) (ho : ∀ g, ov.ownBlock = some g → ¬ F g) : RefAt B w' y r rv ov :=
  ⟨(hc.block y (lt_of_block h.block) hy).trans h.block, owns_kept h.row fun g hg => hc.block g (h.row.lt g hg).2 (hr g hg), owns_kept h.ords fun g hg => hc.block g (h.ords.lt g hg).2 (ho g hg), h.ok, h.lo⟩
theorem owns_kind {w : World} {B : Nat} {e : TypeId} {sz : Nat} {v : Value} {n : Nat} {xs : List Value} (h : w.ownsRow B e sz v n xs) {g : Nat} (hg : v.ownBlock = some g) : ∃ c, w.heap[g]? = some (.cells c e (0, 0)) := by
  obtain ⟨_, ⟨rfl, _⟩ | ⟨g', cap, cu, rfl, _, hg2, _⟩⟩ := h
  · simp [Value.ownBlock] at hg
  · obtain rfl : g' = g := by simpa [Value.ownBlock] using hg
    exact ⟨cu, hg2⟩
theorem kind_ne {w : World} {a b : Nat} {c d : Array Value} {T U : TypeId} (ha : w.heap[a]? = some (.cells c T (0, 0))) (hb : w.heap[b]? = some (.cells d U (0, 0))) (h : T ≠ U) : a ≠ b := by
  intro e; subst e
  rw [ha] at hb
  simp at hb
  exact h hb.2

/-- A store of the program in block x, one of the document's answer in block y. -/
structure Pr where
  x : Nat
  y : Nat
  st : St
  r : RSt
  rv : Value
  ov : Value
structure PairOk (B : Nat) (w : World) (p : Pr) : Prop where
  has : Has w p.x p.st
  ref : RefAt B w p.y p.r p.rv p.ov
  sim : Sim p.st p.r
  lo : B ≤ p.x
  pos : 0 < B
theorem PairOk.blk {B : Nat} {w : World} {p : Pr} (h : PairOk B w p) : ∃ c, w.heap[p.x]? = some (.cells c 62 (0, 0)) := by
  obtain ⟨_, _, _, _, hb, _⟩ := h.has.lies.ex; exact ⟨_, hb⟩
/-- The blocks that calls on the pair may change. -/
def Pr.own (p : Pr) (k : Nat) : Prop := k = p.x ∨ k = p.y ∨ p.rv.ownBlock = some k
theorem PairOk.below {B : Nat} {w w' : World} {p : Pr} (h : PairOk B w p) (hb : Below w.heap.size w w') : PairOk B w' p := ⟨h.has.below hb, h.ref.below hb, h.sim, h.lo, h.pos⟩
/-- What a step on the pair leaves. -/
structure PStep (B : Nat) (w w' : World) (p p' : Pr) : Prop where
  ok : PairOk B w' p'
  x : p'.x = p.x
  y : p'.y = p.y
  rv : ∀ g, p'.rv.ownBlock = some g → p.rv.ownBlock = some g ∨ w.heap.size ≤ g
  ch : Ch p.own w w'
  given : p'.r.given ≤ p.r.given + 1
theorem PStep.same {B : Nat} {w w' : World} {p : Pr} (h : PairOk B w p) (hb : Below w.heap.size w w') : PStep B w w' p p :=
  ⟨h.below hb, rfl, rfl, fun _ hg => .inl hg, Ch.of_below hb, Nat.le_succ _⟩
/-- The document's store beside a call on the program's. -/
theorem ref_beside {B : Nat} {w w1 : World} {p : Pr} (h : PairOk B w p) {st' : St} (hc : CStep w w1 p.x st') : RefAt B w1 p.y p.r p.rv p.ov := by
  obtain ⟨cx, hx⟩ := h.blk
  have hch : Ch (fun k => k = p.x) w w1 := Ch.of_grown hc.gr (fun k hk => by simpa using hk.symm)
  refine h.ref.ch hch (fun e => ?_) (fun g hg e => ?_) (fun g hg e => ?_)
  · exact kind_ne h.ref.block hx (by decide) e
  · obtain ⟨c, hcg⟩ := owns_kind h.ref.row hg
    exact kind_ne hcg hx (by decide) e
  · obtain ⟨c, hcg⟩ := owns_kind h.ref.ords hg
    exact kind_ne hcg hx (by decide) e
/-- A call on the program's store, then one on the document's. -/
theorem pair_step {B : Nat} {w w1 w2 : World} {p : Pr} {st' : St} {r' : RSt} (h : PairOk B w p) (hc : CStep w w1 p.x st') (hr : RStep B w1 w2 p.y p.rv p.ov r') (hs : Sim st' r') (hg : r'.given ≤ p.r.given + 1) :
    ∃ p', PStep B w w2 p p' := by
  obtain ⟨rv', h1, h2⟩ := hr.ex
  have href := ref_beside h hc
  obtain ⟨_, _, _, _, hbx, _⟩ := hc.has.lies.ex
  have hpos := h.pos
  have hx0 : ∀ k, k = p.y ∨ p.rv.ownBlock = some k → ∃ c T, w1.heap[k]? = some (.cells c T (0, 0)) ∧ (T = 65 ∨ T = 115) ∧ B ≤ k := by
    rintro k (rfl | hk)
    · exact ⟨_, _, href.block, .inl rfl, href.lo⟩
    · obtain ⟨c, hcg⟩ := owns_kind href.row hk
      exact ⟨c, _, hcg, .inr rfl, (href.row.lt k hk).1⟩
  have hhas : Has w2 p.x st' := by
    refine hc.has.ch hr.ch (fun hk => ?_) (fun hk => ?_) (fun k c T hk hT hF => ?_)
    · obtain ⟨_, _, _, _, hB⟩ := hx0 0 hk; omega
    · obtain ⟨c, T, hk1, hT, _⟩ := hx0 _ hk
      rcases hT with rfl | rfl
      · exact kind_ne hk1 hbx (by decide) rfl
      · exact kind_ne hk1 hbx (by decide) rfl
    · obtain ⟨c', T', hk1, hT', _⟩ := hx0 k hF
      rcases hT with rfl | rfl <;> rcases hT' with rfl | rfl <;> exact kind_ne hk1 hk (by decide) rfl
  refine ⟨{ p with st := st', r := r', rv := rv' }, ⟨hhas, h1, hs, h.lo, h.pos⟩, rfl, rfl, ?_, ?_, hg⟩
  · intro g hg'
    rcases h2 g hg' with e | e
    · exact .inl e
    · exact .inr (Nat.le_trans hc.gr.size e)
  · have c1 : Ch p.own w w1 := Ch.of_grown hc.gr (fun k hk => .inl (by simpa using hk.symm))
    have c2 : Ch p.own w1 w2 := hr.ch.mono fun k _ hk => hk.elim (fun e => .inr (.inl e)) (fun e => .inr (.inr e))
    exact c1.trans c2
/-- The same, where the document's call may change the order. -/
theorem pair_stepO {B : Nat} {w w1 w2 : World} {p : Pr} {st' : St} {r' : RSt} (h : PairOk B w p) (hc : CStep w w1 p.x st') (hr : RStepO B w1 w2 p.y p.rv p.ov r') (hs : Sim st' r') (hg : r'.given ≤ p.r.given + 1) :
    ∃ p', PStep B w w2 p p' := by
  obtain ⟨ov', h1, h2⟩ := hr.ex
  have href := ref_beside h hc
  obtain ⟨_, _, _, _, hbx, _⟩ := hc.has.lies.ex
  have hpos := h.pos
  have hhas : Has w2 p.x st' := by
    refine hc.has.ch hr.ch (fun hk => ?_) (fun hk => ?_) (fun k c T hk hT hF => ?_)
    · have := href.lo; omega
    · exact kind_ne href.block hbx (by decide) hk.symm
    · rcases hT with rfl | rfl <;> exact kind_ne href.block hk (by decide) hF.symm
  refine ⟨{ p with st := st', r := r', ov := ov' }, ⟨hhas, h1, hs, h.lo, h.pos⟩, rfl, rfl, fun g hg' => .inl hg', ?_, hg⟩
  have c1 : Ch p.own w w1 := Ch.of_grown hc.gr (fun k hk => .inl (by simpa using hk.symm))
  have c2 : Ch p.own w1 w2 := hr.ch.mono fun k _ hk => .inr (.inl hk)
  exact c1.trans c2
end Go.Proofs.YthoodkbdpnffdabGreatDoor
