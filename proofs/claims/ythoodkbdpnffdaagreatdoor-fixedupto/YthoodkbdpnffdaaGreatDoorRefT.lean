/-
  Own work: the program and the document's answer make the same of the same calls (plain mathematics).
-/
import Derived.Test.YthoodkbdpnffdaaGreatDoorAnsW
import Derived.Test.YthoodkbdpnffdaaGreatDoorRefR
namespace Go.Proofs.YthoodkbdpnffdaaGreatDoor
open Cho (U64 Tab full col Nd Red)

section
variable {st : St} {r : RSt}
theorem Sim.const (h : Sim st r) (hg : st.given + 1 < 4294967295) (v : Bool) : (st.made (if v then full st.n else 0)).2 = (r.made (if v then full r.n else 0)).2 ∧ Sim (st.made (if v then full st.n else 0)).1 (r.made (if v then full r.n else 0)).1 := by
  rw [h.n]
  apply sim_made h _ hg
  cases v
  · exact Nat.two_pow_pos _
  · exact Cho.full_tab _
theorem Sim.var (h : Sim st r) (hg : st.given + 1 < 4294967295) (i : Int) : (st.var i).2 = (r.var i).2 ∧ Sim (st.var i).1 (r.var i).1 := by
  unfold St.var RSt.var
  rw [h.n]
  by_cases hi : 0 ≤ i ∧ i < st.n
  · rw [if_pos hi, if_pos hi]
    exact sim_made h (Nat.lt_of_le_of_lt Nat.and_le_right (Cho.full_tab _)) hg
  · rw [if_neg hi, if_neg hi]; exact ⟨rfl, h⟩
theorem Sim.make (h : Sim st r) (hg : st.given + 1 < 4294967295) (t : Nat) : (st.make t).2 = (r.make t).2 ∧ Sim (st.make t).1 (r.make t).1 := by
  unfold St.make RSt.make
  rw [h.n]
  by_cases hi : t ≤ full st.n
  · rw [if_pos hi, if_pos hi]
    exact sim_made h (Nat.lt_of_le_of_lt hi (Cho.full_tab _)) hg
  · rw [if_neg hi, if_neg hi]; exact ⟨rfl, h⟩
theorem Sim.apply (h : Sim st r) (hg : st.given + 1 < 4294967295) (c : Int) (a b : Nat) : (st.apply c a b).2 = (r.apply c a b).2 ∧ Sim (st.apply c a b).1 (r.apply c a b).1 := by
  unfold St.apply RSt.apply
  rw [h.n]
  by_cases hi : 0 ≤ c ∧ c ≤ 15
  · rw [if_pos hi, if_pos hi, ← h.get a, ← h.get b]
    cases ha : st.get a with
    | none => exact ⟨rfl, h⟩
    | some x =>
      cases hb : st.get b with
      | none => exact ⟨rfl, h⟩
      | some y => exact sim_made h (Cho.joinT_tab _ _ _ _ (sget_tab ha) (sget_tab hb)) hg
  · rw [if_neg hi, if_neg hi]; exact ⟨rfl, h⟩
theorem Sim.ite (h : Sim st r) (hg : st.given + 1 < 4294967295) (a b c : Nat) : (st.ite a b c).2 = (r.ite a b c).2 ∧ Sim (st.ite a b c).1 (r.ite a b c).1 := by
  unfold St.ite RSt.ite
  rw [← h.get a, ← h.get b, ← h.get c]
  cases ha : st.get a with
  | none => exact ⟨rfl, h⟩
  | some x =>
    cases hb : st.get b with
    | none => exact ⟨rfl, h⟩
    | some y =>
      cases hc : st.get c with
      | none => exact ⟨rfl, h⟩
      | some z => exact sim_made h (Cho.chooseT_tab (sget_tab hb) (sget_tab hc)) hg
theorem Sim.restrict (h : Sim st r) (hg : st.given + 1 < 4294967295) (a : Nat) (v : Int) (to : Bool) : (st.restrict a v to).2 = (r.restrict a v to).2 ∧ Sim (st.restrict a v to).1 (r.restrict a v to).1 := by
  unfold St.restrict RSt.restrict
  rw [h.n]
  by_cases hi : 0 ≤ v ∧ v < st.n
  · rw [if_pos hi, if_pos hi, ← h.get a]
    cases ha : st.get a with
    | none => exact ⟨rfl, h⟩
    | some x => exact sim_made h (Cho.fix_tab _ _ (sget_tab ha) h.inv.n6 (by omega)) hg
  · rw [if_neg hi, if_neg hi]; exact ⟨rfl, h⟩
theorem Sim.compose (h : Sim st r) (hg : st.given + 1 < 4294967295) (a : Nat) (v : Int) (b : Nat) : (st.compose a v b).2 = (r.compose a v b).2 ∧ Sim (st.compose a v b).1 (r.compose a v b).1 := by
  unfold St.compose RSt.compose
  rw [h.n]
  by_cases hi : 0 ≤ v ∧ v < st.n
  · rw [if_pos hi, if_pos hi, ← h.get a, ← h.get b]
    cases ha : st.get a with
    | none => exact ⟨rfl, h⟩
    | some x =>
      cases hb : st.get b with
      | none => exact ⟨rfl, h⟩
      | some y => exact sim_made h (Cho.putT_tab _ _ (sget_tab ha) h.inv.n6 (by omega)) hg
  · rw [if_neg hi, if_neg hi]; exact ⟨rfl, h⟩
theorem Sim.quantify (h : Sim st r) (hg : st.given + 1 < 4294967295) (a x : Nat) (all : Bool) : (st.quantify a x all).2 = (r.quantify a x all).2 ∧ Sim (st.quantify a x all).1 (r.quantify a x all).1 := by
  unfold St.quantify RSt.quantify
  rw [h.n]
  by_cases hi : x < 2 ^ st.n
  · rw [if_pos hi, if_pos hi, ← h.get a]
    cases ha : st.get a with
    | none => exact ⟨rfl, h⟩
    | some f => exact sim_made h (Cho.quantT_tab _ (sget_tab ha) h.inv.n6 hi) hg
  · rw [if_neg hi, if_neg hi]; exact ⟨rfl, h⟩
end
theorem Sim.release {st : St} {r : RSt} (h : Sim st r) (a : Nat) : (st.release a).2 = (r.release a).2 ∧ Sim (st.release a).1 (r.release a).1 := by
  unfold St.release RSt.release
  rw [← h.get a]
  cases ha : st.get a with
  | none => exact ⟨rfl, h⟩
  | some f => exact ⟨rfl, sim_drop h (St.live_of ha).1⟩
theorem Sim.sizeA {st : St} {r : RSt} (h : Sim st r) (a : Nat) : sizeA (fun _ => st.size a) (st.get a) = sizeA r.size (r.get a) := by
  rw [h.get a]
  cases ha : r.get a with
  | none => rfl
  | some f => show (st.size a, 0) = (r.size f, 0); rw [h.size ha]

/-- No call gives more than one handle. -/
theorem made_given (r : RSt) (t : Nat) : (r.made t).1.given ≤ r.given + 1 := by
  unfold RSt.made
  split
  · split
    · exact Nat.le_refl _
    · exact Nat.le_succ _
  · exact Nat.le_succ _
theorem var_given (r : RSt) (i : Int) : (r.var i).1.given ≤ r.given + 1 := by
  unfold RSt.var; split
  · exact made_given _ _
  · exact Nat.le_succ _
theorem make_given (r : RSt) (t : Nat) : (r.make t).1.given ≤ r.given + 1 := by
  unfold RSt.make; split
  · exact made_given _ _
  · exact Nat.le_succ _
theorem apply_given (r : RSt) (c : Int) (a b : Nat) : (r.apply c a b).1.given ≤ r.given + 1 := by
  unfold RSt.apply; split
  · split
    · exact made_given _ _
    · exact Nat.le_succ _
  · exact Nat.le_succ _
theorem ite_given (r : RSt) (a b c : Nat) : (r.ite a b c).1.given ≤ r.given + 1 := by
  unfold RSt.ite; split
  · exact made_given _ _
  · exact Nat.le_succ _
theorem restrict_given (r : RSt) (a : Nat) (v : Int) (to : Bool) : (r.restrict a v to).1.given ≤ r.given + 1 := by
  unfold RSt.restrict; split
  · split
    · exact made_given _ _
    · exact Nat.le_succ _
  · exact Nat.le_succ _
theorem compose_given (r : RSt) (a : Nat) (v : Int) (b : Nat) : (r.compose a v b).1.given ≤ r.given + 1 := by
  unfold RSt.compose; split
  · split
    · exact made_given _ _
    · exact Nat.le_succ _
  · exact Nat.le_succ _
theorem quantify_given (r : RSt) (a x : Nat) (all : Bool) : (r.quantify a x all).1.given ≤ r.given + 1 := by
  unfold RSt.quantify; split
  · split
    · exact made_given _ _
    · exact Nat.le_succ _
  · exact Nat.le_succ _
theorem release_given (r : RSt) (a : Nat) : (r.release a).1.given ≤ r.given + 1 := by
  unfold RSt.release; split
  · exact Nat.le_succ _
  · exact Nat.le_succ _
end Go.Proofs.YthoodkbdpnffdaaGreatDoor

/-
  Own work: the document's answer: an order with two neighbours changed (a walk).
-/
namespace Go.Proofs.YthoodkbdpnffdaaGreatDoor
open Go.RowKit
open Cho (U64 Tab full col)

/-- A row of numbers that was made since the world w. -/
structure LocI (w wr : World) (v : Value) (l : List Nat) : Prop where
  bel : Below w.heap.size w wr
  row : wr.ownsRow w.heap.size 3 1 v l.length (lv l)
theorem lvI_set (l : List Nat) (i x : Nat) : (lv l).set i (.int .i64 (x : Nat)) = lv (l.set i x) := by simp [lv, List.map_set]
theorem owns_set {w : World} {B : Nat} {e : TypeId} {g n cap i : Nat} {xs : List Value} (h : w.ownsRow B e 1 (.slice (some ⟨g, 0, none⟩) n cap) n xs) (u : Value) : (w.setCell ⟨g, i, none⟩ u).ownsRow B e 1 (.slice (some ⟨g, 0, none⟩) n cap) n (xs.set i u) := by
  obtain ⟨h1, h2⟩ := h
  refine ⟨by simpa using h1, ?_⟩
  rcases h2 with ⟨h2, _⟩ | ⟨g', cap', cur, e1, hB, hg, hn, hm, hs, ht⟩
  · simp at h2
  · simp only [Value.slice.injEq, Option.some.injEq, Addr.mk.injEq, and_true, true_and] at e1
    obtain ⟨rfl, rfl⟩ := e1
    right
    refine ⟨g, cap, cur.setIfInBounds i u, rfl, hB, ?_, hn, hm, by simpa using hs, ?_⟩
    · simp only [World.setCell, Array.getElem?_modify, hg]; simp
    · rw [← ht]
      simp only [Array.toList_setIfInBounds, Nat.mul_one]
      rw [List.take_set]
theorem LocI.set {w wr : World} {g n cap : Nat} {l : List Nat} (h : LocI w wr (.slice (some ⟨g, 0, none⟩) n cap) l) (hn : n = l.length) (i x : Nat) : LocI w (wr.setCell ⟨g, i, none⟩ (.int .i64 (x : Nat))) (.slice (some ⟨g, 0, none⟩) n cap) (l.set i x) := by
  subst hn
  refine ⟨h.bel.setCell (h.row.lt g rfl).1 _, ?_⟩
  have := owns_set (i := i) h.row (.int .i64 (x : Nat))
  rw [lvI_set] at this
  simpa using this
theorem LocI.rowI {w wr : World} {v : Value} {l : List Nat} (h : LocI w wr v l) : RowI wr v l := by
  obtain ⟨ao, cap, rfl⟩ := owns_slice h.row
  refine ⟨ao, cap, rfl, fun i hi => ?_⟩
  obtain ⟨g, cap', e, _⟩ := owns_form h.row (by omega)
  simp only [Value.slice.injEq] at e
  obtain ⟨rfl, _, _⟩ := e
  refine ⟨g, rfl, ?_⟩
  have := h.row.cells (g := g) rfl i (.int .i64 (l[i] : Nat)) (by simp [lv, hi])
  rw [Addr.add_mid, Nat.zero_add] at this
  exact this

theorem lvI_one (l : List Nat) : ∀ u ∈ lv l, u.oneCell' = true := by
  intro u hu
  obtain ⟨x, _, rfl⟩ := List.mem_map.1 hu
  rfl
/-- A copy of a row of numbers. -/
theorem loci_copy {w w1 : World} {v' : Value} {l : List Nat} (h0 : 0 < l.length) (hown : w1.ownsRow w.heap.size 3 1 v' (0 + l.length) ([] ++ lv l)) (hg : w.grownBy w1 none) :
    ∃ g cap, v' = .slice (some ⟨g, 0, none⟩) l.length cap ∧ LocI w w1 (.slice (some ⟨g, 0, none⟩) l.length cap) l ∧ w.heap.size ≤ g ∧ (∀ j, w1.frozen? ⟨g, j, none⟩ = false) := by
  rw [Nat.zero_add, List.nil_append] at hown
  obtain ⟨g, cap, rfl, hB, cur, hcur⟩ := owns_form hown h0
  exact ⟨g, cap, rfl, ⟨⟨hg.os, hg.tape, hg.output, hg.size, fun k hk => hg.block k hk (by simp)⟩, hown⟩, hB, fun j => frozen_of_block hcur j⟩
theorem loci_cell {w wr : World} {g n cap : Nat} {l : List Nat} (h : LocI w wr (.slice (some ⟨g, 0, none⟩) n cap) l) {i : Nat} (hi : i < l.length) : wr.cell? ⟨g, i, none⟩ = some (.int .i64 (l[i] : Nat)) := by
  obtain ⟨ao, cap', e, hc⟩ := h.rowI
  simp only [Value.slice.injEq] at e
  obtain ⟨rfl, _, _⟩ := e
  obtain ⟨g', e, h1⟩ := hc i hi
  simp only [Option.some.injEq, Addr.mk.injEq, and_true] at e
  subst e; exact h1

/-- An order with two neighbours changed. -/
def swapL (l : List Nat) (k : Nat) : List Nat := (l.set k (l.getD (k + 1) 0)).set (k + 1) (l.getD k 0)
theorem swapL_len (l : List Nat) (k : Nat) : (swapL l k).length = l.length := by simp [swapL]

set_option maxRecDepth 100000 in
set_option maxHeartbeats 1000000 in
theorem rswapped_calls (k : Nat) (v : Value) (l : List Nat) (w : World) (hl : RowI w v l) (hk : k + 1 < l.length) (hll : l.length ≤ 6) :
    Calls Tryz.prog 104 #[v, .int .i64 k] w fun e w' => ∃ v', e = .returned v' ∧ LocI w w' v' (swapL l k) := by
  obtain ⟨i0, hi0, hz0, hz1, hz2⟩ := info_parts Tryz.infoInt
  have HL : Hid (RowI w v l) := hl
  obtain ⟨ao, cap, rfl, hc⟩ := hl
  obtain ⟨g, rfl, _⟩ := hc 0 (by omega)
  have HC : Hid (∀ j u, (lv l)[j]? = some u → w.cell? ((⟨g, 0, none⟩ : Addr).add j) = some u) := by
    intro j u hu
    have hj : j < l.length := by
      apply Classical.byContradiction
      intro hn
      rw [List.getElem?_eq_none (by simp [lv]; omega)] at hu; cases hu
    obtain ⟨g', e, h1⟩ := hc j hj
    simp only [Option.some.injEq, Addr.mk.injEq, and_true] at e
    subst e
    rw [Addr.add_mid, Nat.zero_add, h1]
    simpa [lv, hj] using hu
  have hgl : g < w.heap.size := by obtain ⟨g', e, h1⟩ := hc 0 (by omega); simp only [Option.some.injEq, Addr.mk.injEq, and_true] at e; subst e; exact World.block_lt_of_cell? w _ h1
  have SRC : Hid (∀ w1, Below w.heap.size w w1 → ∀ i (hi : i < l.length), w1.cell? ⟨g, i, none⟩ = some (.int .i64 (l[i] : Nat))) := by
    intro w1 hb i hi
    obtain ⟨g', e, h1⟩ := hc i hi
    simp only [Option.some.injEq, Addr.mk.injEq, and_true] at e
    subst e
    exact cell_below h1 hb
  clear hc
  have F1 : Hid (0 + l.length ≤ maxLen) := by show 0 + l.length ≤ maxLen; unfold maxLen; omega
  have F2 : Hid ((0 + l.length) * 8 ≤ 140737488355328) := by show (0 + l.length) * 8 ≤ 140737488355328; omega
  have F4 : Hid (∀ u ∈ lv l, u.oneCell' = true) := lvI_one l
  have F5 : Hid ((lv l).length = l.length * 1) := by show (lv l).length = l.length * 1; simp [lv]
  go_enter Tryz.func104, Tryz.ntmps104
  go_wp2_with (at_builtin; go_must (refine wpList_append_own _ rfl _ _ 49 rfl w.heap.size 3 i0 _ 1 8 Tryz.underlying49 hi0 hz0 hz1 hz2 rfl (Nat.succ_pos 0) (.slice none 0 0) 0 [] ?e1 (World.ownsRow_nil _ _ _ _) ⟨g, 0, none⟩ l.length cap (lv l) ?e2 F5.out HC.out F4.out F1.out F2.out (Nat.le_refl _) ?_); (case e1 => rfl); (case e2 => rfl); intro v' w1 hown hgrow _; obtain ⟨g1, cap1, rfl, l1, hB1, hfz⟩ := loci_copy (by omega) hown hgrow; have L1 : Hid (LocI w w1 (.slice (some ⟨g1, 0, none⟩) l.length cap1) l) := l1; have s0 := SRC.out w1 l1.bel k (by omega); have s1 := SRC.out w1 l1.bel (k + 1) hk; have d0 := loci_cell l1 (i := k) (by omega); have d1 := loci_cell l1 (i := k + 1) hk; have fz0 := hfz k; have fz1 := hfz (k + 1); have hne : ¬ g = g1 := (by omega); have hlt1 := (l1.row.lt g1 rfl).2; clear hown hgrow l1 hfz)
  go_ret
  refine ⟨_, rfl, ?_⟩
  have e : swapL l k = (l.set k l[k + 1]).set (k + 1) l[k] := by
    unfold swapL
    rw [show l.getD (k + 1) 0 = l[k + 1] from by simp [List.getD, hk], show l.getD k 0 = l[k] from by simp [List.getD, show k < l.length from by omega]]
  rw [e]
  exact (L1.out.set rfl k l[k + 1]).set (by simp) (k + 1) l[k]

/-- How many nodes all functions have by an order. -/
def RSt.tog (r : RSt) (ord : List Nat) : Nat := (Cho.nodesT r.n r.ts ord).length
theorem rnodes_len2 (B y : Nat) (r : RSt) (rv ov : Value) (fns ord : List Nat) (w : World) (hr : RefAt B w y r rv ov) (hT : ∀ x ∈ fns, Tab r.n x) (hl : fns.length ≤ 31) (hol : ord.length = r.n) (hom : ∀ v ∈ ord, v < r.n) (W : World) (v ow : Value) (hv : RowU W v fns) (hlt : ∀ g, v.ownBlock = some g → g < W.heap.size) (ho : RowI W ow ord) (hW : Below w.heap.size w W) :
    Calls Tryz.prog 93 #[.pointer (some ⟨y, 0, none⟩), v, ow] W fun e w' => ∃ ao cap, e = .returned (.slice ao (Cho.nodesT r.n fns ord).length cap) ∧ Below w.heap.size w w' := by
  have h1 := hr.below hW
  refine (rnodes_calls y r.n v ow fns ord W h1.c0 h1.ok.n6 hv hlt ho hT hl hol hom).mono ?_
  rintro e w' ⟨v', rfl, l⟩
  obtain ⟨ao, cap, rfl⟩ := owns_slice l.row
  exact ⟨ao, cap, rfl, below_trans hW l.bel⟩

set_option maxRecDepth 100000 in
set_option maxHeartbeats 1000000 in
theorem rtogether_calls (B y : Nat) (r : RSt) (rv ov ow : Value) (ord : List Nat) (w : World) (hr : RefAt B w y r rv ov) (ho : RowI w ow ord) (hol : ord.length = r.n) (hom : ∀ v ∈ ord, v < r.n) :
    Calls Tryz.prog 105 #[.pointer (some ⟨y, 0, none⟩), ow] w fun e w' => e = .returned (.int .i64 (r.tog ord : Nat)) ∧ Below w.heap.size w w' := by
  have hlen := hr.ok.len
  have hu : r.tog ord ≤ 4000 := outTo_small hr.ok.n6 _ _ (by simp [RSt.ts]; omega) _ (Nat.le_refl _)
  have KT : Hid (Calls Tryz.prog 95 #[.pointer (some ⟨y, 0, none⟩)] w fun e w' => ∃ v', e = .returned v' ∧ Loc w w' v' r.ts) := rtables_calls B y r rv ov w hr
  have KN : Hid (∀ W v, RowU W v r.ts → (∀ g, v.ownBlock = some g → g < W.heap.size) → Below w.heap.size w W → Calls Tryz.prog 93 #[.pointer (some ⟨y, 0, none⟩), v, ow] W fun e w' => ∃ ao cap, e = .returned (.slice ao (r.tog ord) cap) ∧ Below w.heap.size w w') := fun W v h1 h2 h3 =>
    rnodes_len2 B y r rv ov r.ts ord w hr hr.ok.tab (by simp [RSt.ts]; omega) hol hom W v ow h1 h2 (ho.below h3) h3
  clear hr ho hol hom
  go_enter Tryz.func105, Tryz.ntmps105
  go_wp2_with fail
  refine KT.out.mono ?_
  rintro e w1 ⟨v1, rfl, l1⟩
  have L1 : Hid (Loc w w1 v1 r.ts) := l1
  clear l1
  go_wp2_with fail
  refine (KN.out _ _ L1.out.rowU (fun g hg => (L1.out.row.lt g hg).2) L1.out.bel).mono ?_
  rintro e w2 ⟨ao, cap, rfl, b2⟩
  have B2 : Hid (Below w.heap.size w w2) := b2
  clear b2
  go_wp2_with fail
  go_ret
  exact ⟨rfl, B2.out⟩
end Go.Proofs.YthoodkbdpnffdaaGreatDoor

/-
  Own work: the document's answer: Swap (a walk).
-/
namespace Go.Proofs.YthoodkbdpnffdaaGreatDoor
open Go.RowKit
open Cho (U64 Tab full col)

theorem swapL_mem {l : List Nat} {k x : Nat} (hk : k + 1 < l.length) (h : x ∈ swapL l k) : x ∈ l := by
  unfold swapL at h
  rcases List.mem_or_eq_of_mem_set h with h | h
  · rcases List.mem_or_eq_of_mem_set h with h | h
    · exact h
    · rw [h, show l.getD (k + 1) 0 = l[k + 1] from by simp [List.getD, hk]]; exact List.getElem_mem _
  · rw [h, show l.getD k 0 = l[k] from by simp [List.getD, show k < l.length from by omega]]; exact List.getElem_mem _
/-- The order is another now. -/
def RSt.by (r : RSt) (ord : List Nat) : RSt := { r with ord := ord }
theorem by_ok {r : RSt} (h : RefOk r) {ord : List Nat} (hl : ord.length = r.n) (hm : ∀ v ∈ ord, v < r.n) : RefOk (r.by ord) := ⟨h.n1, h.n6, h.room, h.len, h.given, h.hs, h.nodup, h.tab, hl, hm⟩
/-- What a call that may change the order leaves. -/
structure RStepO (B : Nat) (w w' : World) (y : Nat) (rv ov : Value) (r' : RSt) : Prop where
  ex : ∃ ov', RefAt B w' y r' rv ov' ∧ ∀ g, ov'.ownBlock = some g → ov.ownBlock = some g ∨ w.heap.size ≤ g
  ch : Ch (fun k => k = y) w w'
theorem RStepO.same {B : Nat} {w w' : World} {y : Nat} {r : RSt} {rv ov : Value} (h : RefAt B w y r rv ov) (hb : Below w.heap.size w w') : RStepO B w w' y rv ov r := ⟨⟨ov, h.below hb, fun _ hg => .inl hg⟩, Ch.of_below hb⟩
theorem ref_ord {B : Nat} {w w1 : World} {y : Nat} {r : RSt} {rv ov v : Value} {ord : List Nat} (h : RefAt B w y r rv ov) (hb : Below w.heap.size w w1) (hv : w1.ownsRow w.heap.size 3 1 v ord.length (lv ord)) (hl : ord.length = r.n) (hm : ∀ x ∈ ord, x < r.n) :
    RStepO B w (w1.setCell ⟨y, 4, none⟩ v) y rv ov (r.by ord) := by
  have hy := lt_of_block h.block
  have hB : B ≤ w.heap.size := by have := h.lo; omega
  have hb1 : w1.heap[y]? = _ := (hb.block y hy).trans h.block
  have hg2 : ∀ g, v.ownBlock = some g → w.heap.size ≤ g := fun g hg => (hv.lt g hg).1
  refine ⟨⟨v, ⟨?_, ?_, ?_, by_ok h.ok hl hm, h.lo⟩, fun g hg => .inr (hg2 g hg)⟩, ?_⟩
  · simp [World.setCell, Array.getElem?_modify, hb1, RSt.by]
  · refine owns_kept h.row fun k hk => ?_
    have hky : k ≠ y := by
      have := owns_ne h.row h.block (by decide)
      intro e; subst e; exact this hk.symm
    rw [block_set_other hky]
    exact hb.block k (h.row.lt k hk).2
  · have h0 := owns_kept (w' := w1.setCell ⟨y, 4, none⟩ v) hv fun g hg => block_set_other (by have := hg2 g hg; simp; omega)
    obtain ⟨h1, h2⟩ := h0
    refine ⟨h1, h2.imp id ?_⟩
    rintro ⟨g, cap', cur, e1, e2, e3⟩
    exact ⟨g, cap', cur, e1, by omega, e3⟩
  · refine ⟨hb.os, hb.tape, hb.output, ?_, fun k hk hn => ?_⟩
    · have := hb.size; simpa using this
    · rw [block_set_other hn]
      exact hb.block k hk

def RSt.swap (r : RSt) (level : Int) : RSt × Nat :=
  if 0 ≤ level ∧ level ≤ (r.n : Int) - 2 then
    if r.tog (swapL r.ord level.toNat) ≤ r.room then (r.by (swapL r.ord level.toNat), 0) else (r, 4)
  else (r, 1)

set_option maxRecDepth 100000 in
set_option maxHeartbeats 1000000 in
theorem rswap_calls (B y : Nat) (level : Int) (r : RSt) (rv ov : Value) (w : World) (hr : RefAt B w y r rv ov) :
    Calls Tryz.prog 60 #[.pointer (some ⟨y, 0, none⟩), .int .i64 level] w fun e w' => e = .returned (.int .i64 ((r.swap level).2 : Nat)) ∧ RStepO B w w' y rv ov (r.swap level).1 := by
  have HR : Hid (RefAt B w y r rv ov) := hr
  have c0 := hr.c0
  have hn := hr.ok.n6
  have hn1 := hr.ok.n1
  by_cases hlv : 0 ≤ level ∧ level ≤ (r.n : Int) - 2
  · obtain ⟨k, rfl⟩ : ∃ k : Nat, level = k := ⟨level.toNat, by omega⟩
    have hk2 : k + 1 < r.ord.length := by rw [hr.ok.ordl]; omega
    have HM : Hid (∀ v ∈ swapL r.ord k, v < r.n) := fun v hv => hr.ok.ordm v (swapL_mem hk2 hv)
    have HLN : Hid ((swapL r.ord k).length = r.n) := by show (swapL r.ord k).length = r.n; rw [swapL_len, hr.ok.ordl]
    have HE : Hid (r.swap k = if r.tog (swapL r.ord k) ≤ r.room then (r.by (swapL r.ord k), 0) else (r, 4)) := by show r.swap k = _; unfold RSt.swap; rw [if_pos hlv]; rfl
    have KS : Hid (Calls Tryz.prog 104 #[ov, .int .i64 k] w fun e w' => ∃ v', e = .returned v' ∧ LocI w w' v' (swapL r.ord k)) := rswapped_calls k ov r.ord w hr.ordI hk2 (by rw [hr.ok.ordl]; exact hn)
    have hk3 : (k : Int) ≤ (r.n : Int) - 2 := hlv.2
    have c4 := hr.c4
    clear hr hlv hk2
    go_enter Tryz.func60, Tryz.ntmps60
    go_wp2_with fail
    refine KS.out.mono ?_
    rintro e w1 ⟨v1, rfl, l1⟩
    obtain ⟨a1, cp1, rfl⟩ := owns_slice l1.row
    have L1 : Hid (LocI w w1 (.slice a1 (swapL r.ord k).length cp1) (swapL r.ord k)) := l1
    have HR1 : Hid (RefAt B w1 y r rv ov) := HR.out.below l1.bel
    clear l1
    have KT : Hid (Calls Tryz.prog 105 #[.pointer (some ⟨y, 0, none⟩), .slice a1 (swapL r.ord k).length cp1] w1 fun e w' => e = .returned (.int .i64 (r.tog (swapL r.ord k) : Nat)) ∧ Below w1.heap.size w1 w') := rtogether_calls B y r rv ov _ _ w1 HR1.out L1.out.rowI HLN.out HM.out
    have FIN : Hid (∀ w2, Below w1.heap.size w1 w2 → RStepO B w (w2.setCell ⟨y, 4, none⟩ (.slice a1 (swapL r.ord k).length cp1)) y rv ov (r.by (swapL r.ord k))) := fun w2 hb => ref_ord HR.out (below_trans L1.out.bel hb) (owns_kept L1.out.row fun g hg => hb.block g (L1.out.row.lt g hg).2) HLN.out HM.out
    generalize r.tog (swapL r.ord k) = T at *
    go_wp2_with fail
    refine KT.out.mono ?_
    rintro e w2 ⟨rfl, b2⟩
    have B2 : Hid (Below w.heap.size w w2) := below_trans L1.out.bel b2
    have HR2 : Hid (RefAt B w2 y r rv ov) := HR.out.below B2.out
    have F2 : Hid (RStepO B w (w2.setCell ⟨y, 4, none⟩ (.slice a1 (swapL r.ord k).length cp1)) y rv ov (r.by (swapL r.ord k))) := FIN.out w2 b2
    have d1 := HR2.out.c1
    have d4 := HR2.out.c4
    have fz := frozen_of_block HR2.out.block 4
    have hyl := lt_of_block HR2.out.block
    clear b2
    by_cases hT : T ≤ r.room
    · have E : Hid (r.swap k = (r.by (swapL r.ord k), 0)) := HE.out.trans (if_pos hT)
      go_wp2_with fail
      go_ret
      rw [E.out]
      exact ⟨rfl, F2.out⟩
    · have E : Hid (r.swap k = (r, 4)) := HE.out.trans (if_neg hT)
      go_wp2_with fail
      go_ret
      rw [E.out]
      exact ⟨rfl, .same HR.out B2.out⟩
  · have E : Hid (r.swap level = (r, 1)) := if_neg hlv
    clear hr
    by_cases h0 : level < 0
    · clear hlv
      go_enter Tryz.func60, Tryz.ntmps60
      go_wp2_with fail
      go_ret
      rw [E.out]
      exact ⟨rfl, .same HR.out (Below.refl _ _)⟩
    · have h1 : 0 ≤ level := by omega
      have h2 : (r.n : Int) - 2 < level := by omega
      clear hlv h0
      go_enter Tryz.func60, Tryz.ntmps60
      go_wp2_with fail
      go_ret
      rw [E.out]
      exact ⟨rfl, .same HR.out (Below.refl _ _)⟩
end Go.Proofs.YthoodkbdpnffdaaGreatDoor
