/-
  Own work: texts as they lie in memory; what was read of one so far (plain mathematics).
-/
import Derived.Test.YthoodkbdpnffdabDoorInv
import Derived.Test.YthoodkbdpnffdabDoorPlainU
import Derived.Laws.IdiomStrings
import Derived.Laws.Concat
namespace Go.Proofs.YthoodkbdpnffdabDoor
open Go.RowKit
open Cho (U64 Tab full col decL dgt Nd Red lnk tb itm rend Txt Says textOf nodesOf)

/-- A text of these bytes. -/
def txt (l : List UInt8) : Value := .string ⟨l.toArray⟩
theorem txt_app (a b : List UInt8) : (ByteArray.mk a.toArray ++ ByteArray.mk b.toArray) = ByteArray.mk (a ++ b).toArray := ByteArray.mk_append_mk a b
theorem txt_size (a : List UInt8) : (ByteArray.mk a.toArray).size = a.length := by simp [ByteArray.size]

/-- From which variable on a link hangs on variables. -/
def vr (n : Nat) (ns : List Nd) (l : Nat) : Nat := if l < 2 then n else (ns.getD (l - 2) (n, 0, 0)).1
/-! What was read so far. -/
structure Sofar (n : Nat) (bs : List UInt8) (k : Nat) (ns : List Nd) : Prop where
  txt : Txt n ns
  eq : rend ns ++ bs.drop k = bs
  len : (rend ns).length = k
theorem sofar0 (n : Nat) (bs : List UInt8) : Sofar n bs 0 [] := ⟨⟨fun k h => absurd h (by simp), fun k h => absurd h (by simp), fun k h => absurd h (by simp)⟩, by simp [rend], rfl⟩
theorem Sofar.le {n : Nat} {bs : List UInt8} {k : Nat} {ns : List Nd} (h : Sofar n bs k ns) : k ≤ bs.length := by
  have h1 := congrArg List.length h.eq
  have h2 := h.len
  simp at h1; omega
theorem txt_front {n : Nat} {ns ms : List Nd} (h : Txt n (ns ++ ms)) : Txt n ns := by
  have g : ∀ k (hk : k < ns.length), (ns ++ ms)[k]'(by simp; omega) = ns[k] := fun k hk => List.getElem_append_left hk
  refine ⟨fun k hk => ?_, fun k hk => ?_, fun k hk => ?_⟩
  · have := h.var k (by simp; omega); rw [g k hk] at this; exact this
  · have h1 := h.no k (by simp; omega)
    rw [g k hk] at h1
    refine ⟨h1.1, fun j hj e => ?_⟩
    have := h1.2 j (by simp; omega) e
    rw [g j hj] at this; exact this
  · have h1 := h.yes k (by simp; omega)
    rw [g k hk] at h1
    refine ⟨h1.1, fun j hj e => ?_⟩
    have := h1.2 j (by simp; omega) e
    rw [g j hj] at this; exact this
/-- If the whole is a text, an item stands where one has come to. -/
theorem sofar_next {n : Nat} {bs : List UInt8} {k : Nat} {ns ms : List Nd} (h6 : n ≤ 6) (h : Sofar n bs k ns) (hk : k < bs.length) (hm : Txt n ms) (hb : bs = rend ms) : ∃ x r, bs.drop k = itm x ++ r ∧ Txt n (ns ++ [x]) := by
  have e := h.eq
  rw [hb] at e
  obtain ⟨ms', rfl, hr⟩ := Cho.rend_prefix (h.txt.ten h6) (hm.ten h6) e
  cases ms' with
  | nil =>
    have h1 := congrArg List.length hr
    rw [← hb] at h1
    simp [rend] at h1; omega
  | cons x ms' =>
    refine ⟨x, rend ms', ?_, ?_⟩
    · rw [hb, hr]; rfl
    · have : ns ++ x :: ms' = (ns ++ [x]) ++ ms' := by simp
      rw [this] at hm
      exact txt_front hm
theorem sofar_more {n : Nat} {bs r : List UInt8} {k : Nat} {ns : List Nd} {x : Nd} (h : Sofar n bs k ns) (hx : Txt n (ns ++ [x])) (hd : bs.drop k = itm x ++ r) : Sofar n bs (k + (itm x).length) (ns ++ [x]) := by
  have h2 : bs.drop (k + (itm x).length) = r := by rw [← List.drop_drop, hd]; simp
  refine ⟨hx, ?_, ?_⟩
  · rw [Cho.rend_snoc, h2, List.append_assoc, ← hd]; exact h.eq
  · rw [Cho.rend_snoc, List.length_append, h.len]
/-- Pairs, as they lie. -/
def prs (f : Nat → Value × Value) : Nat → List Value
  | 0 => []
  | m + 1 => prs f m ++ [(f m).1, (f m).2]
theorem prs_len (f : Nat → Value × Value) (m : Nat) : (prs f m).length = m * 2 := by
  induction m with
  | zero => rfl
  | succ m ih => simp [prs, ih]; omega
theorem prs_get (f : Nat → Value × Value) {m i : Nat} (hi : i < m) : (prs f m)[i * 2]? = some (f i).1 ∧ (prs f m)[i * 2 + 1]? = some (f i).2 := by
  induction m with
  | zero => omega
  | succ m ih =>
    simp only [prs]
    by_cases e : i = m
    · subst e
      rw [List.getElem?_append_right (by rw [prs_len]; omega), List.getElem?_append_right (by rw [prs_len]; omega), prs_len]
      simp
    · have := ih (by omega)
      rw [List.getElem?_append_left (by rw [prs_len]; omega), List.getElem?_append_left (by rw [prs_len]; omega)]
      exact this
theorem prs_congr {f g : Nat → Value × Value} {m : Nat} (h : ∀ i, i < m → f i = g i) : prs f m = prs g m := by
  induction m with
  | zero => rfl
  | succ m ih =>
    simp only [prs]
    rw [ih (fun i hi => h i (by omega)), h m (by omega)]
/-- The items that were read. -/
def itv (n : Nat) (ns : List Nd) : List Value := prs (fun j => (.int .i64 ((ns.getD j (0, 0, 0)).1 : Nat), .int .u64 (tb n ns (j + 2) : Nat))) ns.length
theorem itv_snoc {n : Nat} {ns : List Nd} (hw : Cho.Wf ns) (x : Nd) : itv n (ns ++ [x]) = itv n ns ++ [.int .i64 (x.1 : Nat), .int .u64 (tb n (ns ++ [x]) (ns.length + 2) : Nat)] := by
  unfold itv
  rw [List.length_append, List.length_singleton]
  simp only [prs]
  congr 1
  · apply prs_congr
    intro i hi
    have e1 : (ns ++ [x]).getD i (0, 0, 0) = ns.getD i (0, 0, 0) := by simp [List.getD, List.getElem?_append_left hi]
    rw [e1, Cho.tb_app hw [x] (by omega)]
  · simp [List.getD]
theorem rend_ge (ns : List Nd) : 5 * ns.length ≤ (rend ns).length := by
  induction ns with
  | nil => simp
  | cons x ns ih =>
    rw [Cho.rend_cons, List.length_append, List.length_cons]
    have h1 := Cho.lnk_pos x.2.1
    have h2 := Cho.lnk_pos x.2.2
    have : (itm x).length = 1 + (lnk x.2.1).length + 1 + (lnk x.2.2).length + 1 := by simp [itm]; omega
    omega
/-- One item more. -/
theorem txt_snoc {n v l0 l1 : Nat} {ns : List Nd} (h : Txt n ns) (hv : v < n) (h0 : l0 < ns.length + 2) (h1 : l1 < ns.length + 2) (v0 : v < vr n ns l0) (v1 : v < vr n ns l1) : Txt n (ns ++ [(v, l0, l1)]) := by
  have gl : ∀ k (hk : k < ns.length), (ns ++ [(v, l0, l1)])[k]'(by simp; omega) = ns[k] := fun k hk => List.getElem_append_left hk
  have gr : (ns ++ [(v, l0, l1)])[ns.length]'(by simp) = (v, l0, l1) := by simp
  have vrj : ∀ l j (hj : j < ns.length), l = j + 2 → vr n ns l = ns[j].1 := by
    rintro l j hj rfl
    unfold vr
    rw [if_neg (by omega), show j + 2 - 2 = j from by omega]
    simp [List.getD, hj]
  refine ⟨fun k hk => ?_, fun k hk => ?_, fun k hk => ?_⟩
  · by_cases hkl : k < ns.length
    · rw [gl k hkl]; exact h.var k hkl
    · obtain rfl : k = ns.length := by simp at hk; omega
      rw [gr]; exact hv
  · by_cases hkl : k < ns.length
    · rw [gl k hkl]
      refine ⟨(h.no k hkl).1, fun j hj e => ?_⟩
      have hjl : j < ns.length := by have := (h.no k hkl).1; omega
      rw [gl j hjl]; exact (h.no k hkl).2 j hjl e
    · obtain rfl : k = ns.length := by simp at hk; omega
      rw [gr]
      refine ⟨h0, fun j hj e => ?_⟩
      have hjl : j < ns.length := by simp only at e; omega
      rw [gl j hjl, ← vrj l0 j hjl e]; exact v0
  · by_cases hkl : k < ns.length
    · rw [gl k hkl]
      refine ⟨(h.yes k hkl).1, fun j hj e => ?_⟩
      have hjl : j < ns.length := by have := (h.yes k hkl).1; omega
      rw [gl j hjl]; exact (h.yes k hkl).2 j hjl e
    · obtain rfl : k = ns.length := by simp at hk; omega
      rw [gr]
      refine ⟨h1, fun j hj e => ?_⟩
      have hjl : j < ns.length := by simp only at e; omega
      rw [gl j hjl, ← vrj l1 j hjl e]; exact v1
theorem snoc_txt {n : Nat} {ns : List Nd} {x : Nd} (h : Txt n (ns ++ [x])) : x.1 < n ∧ x.2.1 < ns.length + 2 ∧ x.2.2 < ns.length + 2 ∧ x.1 < vr n ns x.2.1 ∧ x.1 < vr n ns x.2.2 := by
  have gl : ∀ k (hk : k < ns.length), (ns ++ [x])[k]'(by simp; omega) = ns[k] := fun k hk => List.getElem_append_left hk
  have gr : (ns ++ [x])[ns.length]'(by simp) = x := by simp
  have hv := h.var ns.length (by simp)
  have hno := h.no ns.length (by simp)
  have hyes := h.yes ns.length (by simp)
  rw [gr] at hv hno hyes
  refine ⟨hv, hno.1, hyes.1, ?_, ?_⟩
  · unfold vr
    split
    · exact hv
    · have hj : x.2.1 - 2 < ns.length := by omega
      have := hno.2 (x.2.1 - 2) (by simp; omega) (by omega)
      rw [gl _ hj] at this
      simpa [List.getD, hj] using this
  · unfold vr
    split
    · exact hv
    · have hj : x.2.2 - 2 < ns.length := by omega
      have := hyes.2 (x.2.2 - 2) (by simp; omega) (by omega)
      rw [gl _ hj] at this
      simpa [List.getD, hj] using this
theorem tb_snoc {n v l0 l1 : Nat} {ns : List Nd} (h : Txt n (ns ++ [(v, l0, l1)])) : tb n (ns ++ [(v, l0, l1)]) (ns.length + 2) = Cho.bld (fun p => if p.testBit v then (tb n ns l1).testBit p else (tb n ns l0).testBit p) (2 ^ n) := by
  obtain ⟨_, h0, h1, _⟩ := snoc_txt h
  simp only at h0 h1
  have hw := (txt_front h).wf
  apply Tab.ext (Cho.tb_tab _ _ _) (Cho.bld_tab _ _)
  intro p hp
  have gr : (ns ++ [(v, l0, l1)])[ns.length]'(by simp) = (v, l0, l1) := by simp
  rw [Cho.tb_bit _ _ _ _ hp, Cho.ev_node h.wf p (by simp), gr, Cho.bld_testBit]
  simp only [hp, decide_true, Bool.true_and]
  rw [Cho.tb_bit _ _ _ _ hp, Cho.tb_bit _ _ _ _ hp, Cho.ev_append hw p _ h0, Cho.ev_append hw p _ h1]

theorem vr_le {n : Nat} {ns : List Nd} (h : Txt n ns) (l : Nat) : vr n ns l ≤ n := by
  unfold vr
  split
  · exact Nat.le_refl _
  · by_cases hj : l - 2 < ns.length
    · have := h.var _ hj
      simp [List.getD, hj]; omega
    · simp [List.getD, List.getElem?_eq_none (by omega : ns.length ≤ l - 2)]
/-- What Export answers of a function, or of none. -/
def expA (n : Nat) : Option Nat → List UInt8 × Nat
  | some f => (textOf n f, 0)
  | none => ([], 2)

end Go.Proofs.YthoodkbdpnffdabDoor
