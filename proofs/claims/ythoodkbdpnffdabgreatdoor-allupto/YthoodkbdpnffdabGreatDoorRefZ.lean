/-
  Own work: a function among more variables: what its text says, and how it is written (plain mathematics).
-/
import Derived.Test.YthoodkbdpnffdabGreatDoorPlainT
import Derived.Test.YthoodkbdpnffdabGreatDoorInv
import Derived.Laws.IdiomStrings
import Derived.Laws.Concat
import Derived.Test.YthoodkbdpnffdabGreatDoorPairM
namespace Cho

/-- The same function among m variables. -/
def ext (n m t : Nat) : Nat := bld (fun p => t.testBit (p % 2 ^ n)) (2 ^ m)
theorem ext_tab (n m t : Nat) : Tab m (ext n m t) := bld_tab _ _
theorem ext_bit {n m t p : Nat} (hp : p < 2 ^ m) : (ext n m t).testBit p = t.testBit (p % 2 ^ n) := by unfold ext; rw [bld_testBit]; simp [hp]
theorem mod_put {n p k : Nat} (hk : k < n) (b : Bool) : put p k b % 2 ^ n = put (p % 2 ^ n) k b := by
  apply Nat.eq_of_testBit_eq
  intro i
  rw [Nat.testBit_mod_two_pow, put_testBit, put_testBit, Nat.testBit_mod_two_pow]
  by_cases e : i = k
  · subst e; simp [hk]
  · simp [e]
theorem ext_fix {n m t k : Nat} (hnm : n ≤ m) (h6 : m ≤ 6) (hk : k < n) (ht : Tab n t) (b : Bool) : fix (ext n m t) k b = ext n m (fix t k b) := by
  have hk' : k < m := by omega
  apply Tab.ext (fix_tab k b (ext_tab n m t) h6 hk') (ext_tab _ _ _)
  intro p hp
  rw [fix_at k p b (ext_tab n m t) h6 hk' hp, ext_bit (put_lt p k m b hk' hp), ext_bit hp, fix_at k _ b ht (by omega) hk (Nat.mod_lt _ (Nat.two_pow_pos _)), mod_put hk]
theorem ext_zero (n m : Nat) : ext n m 0 = 0 := by
  apply Tab.ext (ext_tab n m 0) (Nat.two_pow_pos _)
  intro p hp
  rw [ext_bit hp]; simp
theorem ext_full (n m : Nat) : ext n m (full n) = full m := by
  apply Tab.ext (ext_tab n m _) (full_tab m)
  intro p hp
  rw [ext_bit hp, full_testBit, full_testBit]
  simp [hp, Nat.mod_lt _ (Nat.two_pow_pos n)]
theorem ext_inj {n m t u : Nat} (hnm : n ≤ m) (ht : Tab n t) (hu : Tab n u) (h : ext n m t = ext n m u) : t = u := by
  apply Tab.ext ht hu
  intro p hp
  have hpm : p < 2 ^ m := Nat.lt_of_lt_of_le hp (Nat.pow_le_pow_right (by decide) hnm)
  have := congrArg (fun x => Nat.testBit x p) h
  simp only [ext_bit hpm, Nat.mod_eq_of_lt hp] at this
  exact this
theorem ext_low {n m t : Nat} (hnm : n ≤ m) (h6 : m ≤ 6) (ht : Tab n t) {k : Nat} (hk : k ≤ n) (hl : Low n k t) : Low m k (ext n m t) := by
  intro v hv _ b
  rw [ext_fix hnm h6 (by omega) ht, hl v hv (by omega)]
/-- A function that hangs on no variable is the same everywhere. -/
theorem low_all {n t : Nat} (h6 : n ≤ 6) (ht : Tab n t) (hl : Low n n t) : t = if t.testBit 0 then full n else 0 := by
  have key : ∀ p, p < 2 ^ n → t.testBit p = t.testBit 0 := by
    intro p hp
    have := low_mask h6 ht p hp n (Nat.le_refl _) hl
    rw [Nat.sub_self] at this
    exact this.symm
  split
  · rename_i h
    apply Tab.ext ht (full_tab n)
    intro p hp
    rw [key p hp, h, full_testBit]; simp [hp]
  · rename_i h
    apply Tab.ext ht (Nat.two_pow_pos _)
    intro p hp
    rw [key p hp]; simp at h; simp [h]
theorem sup_ext {n m : Nat} (h1 : 1 ≤ n) (hnm : n ≤ m) (h6 : m ≤ 6) : ∀ d k, n - k = d → k ≤ n → ∀ t, Tab n t → Low n k t → ∀ ns, Red (List.range m) ns → sup m k (ext n m t) ns = sup n k t ns := by
  intro d
  induction d with
  | zero =>
    intro k hd hk t ht hl ns hr
    obtain rfl : k = n := by omega
    have ht' := low_all (by omega) ht hl
    have e : sup k k t ns = (ns, if t.testBit 0 then 1 else 0) := by
      show build (List.range' k (k - k)) t ns = _
      rw [Nat.sub_self]; rfl
    rw [e]
    by_cases hb : t.testBit 0 = true
    · rw [if_pos hb] at ht' ⊢
      rw [ht', ext_full]
      exact sup_full (by omega) h6 hnm hr
    · rw [if_neg hb] at ht' ⊢
      rw [ht', ext_zero]
      exact sup_zero (by omega) h6 hnm hr
  | succ d ih =>
    intro k hd hk t ht hl ns hr
    have hkn : k < n := by omega
    have f0 := fix_tab k false ht (by omega) hkn
    have f1 := fix_tab k true ht (by omega) hkn
    have l0 := low_fix (show n ≤ 6 by omega) hkn ht hl false
    have l1 := low_fix (show n ≤ 6 by omega) hkn ht hl true
    have e0 := ih (k + 1) (by omega) (by omega) _ f0 l0 ns hr
    have b0 := build_blt (n := m) h6 (show k + 1 ≤ m by omega) (ext_tab n m (fix t k false)) (ext_low hnm h6 f0 (by omega) l0) hr
    have e1 := ih (k + 1) (by omega) (by omega) _ f1 l1 (sup m (k + 1) (ext n m (fix t k false)) ns).1 b0.red
    show build (List.range' k (m - k)) (ext n m t) ns = build (List.range' k (n - k)) t ns
    rw [range_cons hkn, range_cons (show k < m by omega)]
    simp only [build, ext_fix hnm h6 hkn ht]
    change join (sup m (k + 1) (ext n m (fix t k true)) (sup m (k + 1) (ext n m (fix t k false)) ns).1).1 (k, (sup m (k + 1) (ext n m (fix t k false)) ns).2, (sup m (k + 1) (ext n m (fix t k true)) (sup m (k + 1) (ext n m (fix t k false)) ns).1).2) = join (sup n (k + 1) (fix t k true) (sup n (k + 1) (fix t k false) ns).1).1 (k, (sup n (k + 1) (fix t k false) ns).2, (sup n (k + 1) (fix t k true) (sup n (k + 1) (fix t k false) ns).1).2)
    rw [e1, e0]
/-- THE TEXT OF A FUNCTION IS THE SAME AMONG MORE VARIABLES. -/
theorem text_ext {n m t : Nat} (h1 : 1 ≤ n) (hnm : n ≤ m) (h6 : m ≤ 6) (ht : Tab n t) : textOf m (ext n m t) = textOf n t := by
  have z : ext n m t = 0 ↔ t = 0 := ⟨fun h => ext_inj hnm ht (Nat.two_pow_pos _) (by rw [h, ext_zero]), fun h => by rw [h, ext_zero]⟩
  have f : ext n m t = full m ↔ t = full n := ⟨fun h => ext_inj hnm ht (full_tab n) (by rw [h, ext_full]), fun h => by rw [h, ext_full]⟩
  have e : nodesOf m (ext n m t) = nodesOf n t := by
    unfold nodesOf
    rw [sup_ext h1 hnm h6 n 0 (by omega) (by omega) t ht (low0 n t) [] (Red.nil _)]
  unfold textOf
  simp only [z, f, e]
theorem txt_more {n m : Nat} (hnm : n ≤ m) {ns : List Nd} (h : Txt n ns) : Txt m ns := ⟨fun k hk => by have := h.var k hk; omega, h.no, h.yes⟩
theorem txt_mask {n : Nat} {ns : List Nd} (h : Txt n ns) (p : Nat) : ∀ l, l < ns.length + 2 → ev ns l p = ev ns l (p % 2 ^ n) := by
  intro l
  induction l using Nat.strongRecOn with
  | ind l ih =>
    intro hl
    by_cases h2 : l < 2
    · rw [ev_small _ _ _ h2, ev_small _ _ _ h2]
    · obtain ⟨k, rfl⟩ : ∃ k, l = k + 2 := ⟨l - 2, by omega⟩
      have hk : k < ns.length := by omega
      have hv := h.var k hk
      have hno := (h.no k hk).1
      have hyes := (h.yes k hk).1
      rw [ev_node h.wf _ hk, ev_node h.wf _ hk, Nat.testBit_mod_two_pow]
      rw [ih ns[k].2.1 (by omega) (by omega), ih ns[k].2.2 (by omega) (by omega)]
      simp [hv]
/-- READ AMONG MORE VARIABLES IT SAYS THE SAME. -/
theorem says_more {n m : Nat} (hnm : n ≤ m) {bs : List UInt8} {f : Nat} (h : Says n bs f) : Says m bs (ext n m f) := by
  rcases h with ⟨rfl, rfl⟩ | ⟨rfl, rfl⟩ | ⟨ns, hx, hne, rfl, rfl⟩
  · exact .inl ⟨rfl, ext_zero n m⟩
  · exact .inr (.inl ⟨rfl, ext_full n m⟩)
  · refine .inr (.inr ⟨ns, txt_more hnm hx, hne, rfl, ?_⟩)
    apply Tab.ext (ext_tab _ _ _) (tb_tab _ _ _)
    intro p hp
    rw [ext_bit hp, tb_bit _ _ _ _ (Nat.mod_lt _ (Nat.two_pow_pos _)), tb_bit _ _ _ _ hp, ← txt_mask hx p _ (by omega)]
/-- What a text says, if it is one. -/
noncomputable def readT (n : Nat) (bs : List UInt8) : Option Nat := @dite _ (bs.length ≤ 2000 ∧ ∃ f, Says n bs f) (Classical.propDecidable _) (fun h => some (Classical.choose h.2)) (fun _ => none)
theorem readT_some {n : Nat} {bs : List UInt8} {f : Nat} (hn : n ≤ 6) (hl : bs.length ≤ 2000) (h : Says n bs f) : readT n bs = some f := by
  unfold readT
  rw [dif_pos ⟨hl, f, h⟩]
  exact congrArg some (says_one hn (Classical.choose_spec (⟨f, h⟩ : ∃ f, Says n bs f)) h)
theorem readT_none {n : Nat} {bs : List UInt8} (h : ¬ (bs.length ≤ 2000 ∧ ∃ f, Says n bs f)) : readT n bs = none := by
  unfold readT
  rw [dif_neg h]
theorem readT_says {n : Nat} {bs : List UInt8} {f : Nat} (h : readT n bs = some f) : Says n bs f ∧ bs.length ≤ 2000 := by
  unfold readT at h
  split at h
  · rename_i hx
    have := Classical.choose_spec hx.2
    rw [Option.some.inj h] at this
    exact ⟨this, hx.1⟩
  · cases h
end Cho

/-
  Own work: texts as they lie in memory; what was read of one so far (plain mathematics).
-/
namespace Go.Proofs.YthoodkbdpnffdabGreatDoor
open Go.RowKit
open Cho (U64 Tab full col decL dgt Nd Red lnk tb itm rend Txt Says textOf nodesOf)

/-- A text of these bytes. -/
def txt (l : List UInt8) : Value := .string ⟨l.toArray⟩
theorem txt_app (a b : List UInt8) : (ByteArray.mk a.toArray ++ ByteArray.mk b.toArray) = ByteArray.mk (a ++ b).toArray := ByteArray.mk_append_mk a b
theorem txt_size (a : List UInt8) : (ByteArray.mk a.toArray).size = a.length := by simp [ByteArray.size]

/-- From which variable on a link hangs on variables. -/
def vr (n : Nat) (ns : List Nd) (l : Nat) : Nat := if l < 2 then n else (ns.getD (l - 2) (n, 0, 0)).1
/-! What was read so far. -/
structure Sofar (n : Nat) (bs : List UInt8) (k : Nat) (ns : List Nd) : Prop where
  txt : Txt n ns
  eq : rend ns ++ bs.drop k = bs
  len : (rend ns).length = k
theorem sofar0 (n : Nat) (bs : List UInt8) : Sofar n bs 0 [] := ⟨⟨fun k h => absurd h (by simp), fun k h => absurd h (by simp), fun k h => absurd h (by simp)⟩, by simp [rend], rfl⟩
theorem Sofar.le {n : Nat} {bs : List UInt8} {k : Nat} {ns : List Nd} (h : Sofar n bs k ns) : k ≤ bs.length := by
  have h1 := congrArg List.length h.eq
  have h2 := h.len
  simp at h1; omega
theorem txt_front {n : Nat} {ns ms : List Nd} (h : Txt n (ns ++ ms)) : Txt n ns := by
  have g : ∀ k (hk : k < ns.length), (ns ++ ms)[k]'(by simp; omega) = ns[k] := fun k hk => List.getElem_append_left hk
  refine ⟨fun k hk => ?_, fun k hk => ?_, fun k hk => ?_⟩
  · have := h.var k (by simp; omega); rw [g k hk] at this; exact this
  · have h1 := h.no k (by simp; omega)
    rw [g k hk] at h1
    refine ⟨h1.1, fun j hj e => ?_⟩
    have := h1.2 j (by simp; omega) e
    rw [g j hj] at this; exact this
  · have h1 := h.yes k (by simp; omega)
    rw [g k hk] at h1
    refine ⟨h1.1, fun j hj e => ?_⟩
    have := h1.2 j (by simp; omega) e
    rw [g j hj] at this; exact this
/-- If the whole is a text, an item stands where one has come to. -/
theorem sofar_next {n : Nat} {bs : List UInt8} {k : Nat} {ns ms : List Nd} (h6 : n ≤ 6) (h : Sofar n bs k ns) (hk : k < bs.length) (hm : Txt n ms) (hb : bs = rend ms) : ∃ x r, bs.drop k = itm x ++ r ∧ Txt n (ns ++ [x]) := by
  have e := h.eq
  rw [hb] at e
  obtain ⟨ms', rfl, hr⟩ := Cho.rend_prefix (h.txt.ten h6) (hm.ten h6) e
  cases ms' with
  | nil =>
    have h1 := congrArg List.length hr
    rw [← hb] at h1
    simp [rend] at h1; omega
  | cons x ms' =>
    refine ⟨x, rend ms', ?_, ?_⟩
    · rw [hb, hr]; rfl
    · have : ns ++ x :: ms' = (ns ++ [x]) ++ ms' := by simp
      rw [this] at hm
      exact txt_front hm
theorem sofar_more {n : Nat} {bs r : List UInt8} {k : Nat} {ns : List Nd} {x : Nd} (h : Sofar n bs k ns) (hx : Txt n (ns ++ [x])) (hd : bs.drop k = itm x ++ r) : Sofar n bs (k + (itm x).length) (ns ++ [x]) := by
  have h2 : bs.drop (k + (itm x).length) = r := by rw [← List.drop_drop, hd]; simp
  refine ⟨hx, ?_, ?_⟩
  · rw [Cho.rend_snoc, h2, List.append_assoc, ← hd]; exact h.eq
  · rw [Cho.rend_snoc, List.length_append, h.len]
/-- Pairs, as they lie. -/
def prs (f : Nat → Value × Value) : Nat → List Value
  | 0 => []
  | m + 1 => prs f m ++ [(f m).1, (f m).2]
theorem prs_len (f : Nat → Value × Value) (m : Nat) : (prs f m).length = m * 2 := by
  induction m with
  | zero => rfl
  | succ m ih => simp [prs, ih]; omega
theorem prs_get (f : Nat → Value × Value) {m i : Nat} (hi : i < m) : (prs f m)[i * 2]? = some (f i).1 ∧ (prs f m)[i * 2 + 1]? = some (f i).2 := by
  induction m with
  | zero => omega
  | succ m ih =>
    simp only [prs]
    by_cases e : i = m
    · subst e
      rw [List.getElem?_append_right (by rw [prs_len]; omega), List.getElem?_append_right (by rw [prs_len]; omega), prs_len]
      simp
    · have := ih (by omega)
      rw [List.getElem?_append_left (by rw [prs_len]; omega), List.getElem?_append_left (by rw [prs_len]; omega)]
      exact this
theorem prs_congr {f g : Nat → Value × Value} {m : Nat} (h : ∀ i, i < m → f i = g i) : prs f m = prs g m := by
  induction m with
  | zero => rfl
  | succ m ih =>
    simp only [prs]
    rw [ih (fun i hi => h i (by omega)), h m (by omega)]
/-- The items that were read. -/
def itv (n : Nat) (ns : List Nd) : List Value := prs (fun j => (.int .i64 ((ns.getD j (0, 0, 0)).1 : Nat), .int .u64 (tb n ns (j + 2) : Nat))) ns.length
theorem itv_snoc {n : Nat} {ns : List Nd} (hw : Cho.Wf ns) (x : Nd) : itv n (ns ++ [x]) = itv n ns ++ [.int .i64 (x.1 : Nat), .int .u64 (tb n (ns ++ [x]) (ns.length + 2) : Nat)] := by
  unfold itv
  rw [List.length_append, List.length_singleton]
  simp only [prs]
  congr 1
  · apply prs_congr
    intro i hi
    have e1 : (ns ++ [x]).getD i (0, 0, 0) = ns.getD i (0, 0, 0) := by simp [List.getD, List.getElem?_append_left hi]
    rw [e1, Cho.tb_app hw [x] (by omega)]
  · simp [List.getD]
theorem rend_ge (ns : List Nd) : 5 * ns.length ≤ (rend ns).length := by
  induction ns with
  | nil => simp
  | cons x ns ih =>
    rw [Cho.rend_cons, List.length_append, List.length_cons]
    have h1 := Cho.lnk_pos x.2.1
    have h2 := Cho.lnk_pos x.2.2
    have : (itm x).length = 1 + (lnk x.2.1).length + 1 + (lnk x.2.2).length + 1 := by simp [itm]; omega
    omega
/-- One item more. -/
theorem txt_snoc {n v l0 l1 : Nat} {ns : List Nd} (h : Txt n ns) (hv : v < n) (h0 : l0 < ns.length + 2) (h1 : l1 < ns.length + 2) (v0 : v < vr n ns l0) (v1 : v < vr n ns l1) : Txt n (ns ++ [(v, l0, l1)]) := by
  have gl : ∀ k (hk : k < ns.length), (ns ++ [(v, l0, l1)])[k]'(by simp; omega) = ns[k] := fun k hk => List.getElem_append_left hk
  have gr : (ns ++ [(v, l0, l1)])[ns.length]'(by simp) = (v, l0, l1) := by simp
  have vrj : ∀ l j (hj : j < ns.length), l = j + 2 → vr n ns l = ns[j].1 := by
    rintro l j hj rfl
    unfold vr
    rw [if_neg (by omega), show j + 2 - 2 = j from by omega]
    simp [List.getD, hj]
  refine ⟨fun k hk => ?_, fun k hk => ?_, fun k hk => ?_⟩
  · by_cases hkl : k < ns.length
    · rw [gl k hkl]; exact h.var k hkl
    · obtain rfl : k = ns.length := by simp at hk; omega
      rw [gr]; exact hv
  · by_cases hkl : k < ns.length
    · rw [gl k hkl]
      refine ⟨(h.no k hkl).1, fun j hj e => ?_⟩
      have hjl : j < ns.length := by have := (h.no k hkl).1; omega
      rw [gl j hjl]; exact (h.no k hkl).2 j hjl e
    · obtain rfl : k = ns.length := by simp at hk; omega
      rw [gr]
      refine ⟨h0, fun j hj e => ?_⟩
      have hjl : j < ns.length := by simp only at e; omega
      rw [gl j hjl, ← vrj l0 j hjl e]; exact v0
  · by_cases hkl : k < ns.length
    · rw [gl k hkl]
      refine ⟨(h.yes k hkl).1, fun j hj e => ?_⟩
      have hjl : j < ns.length := by have := (h.yes k hkl).1; omega
      rw [gl j hjl]; exact (h.yes k hkl).2 j hjl e
    · obtain rfl : k = ns.length := by simp at hk; omega
      rw [gr]
      refine ⟨h1, fun j hj e => ?_⟩
      have hjl : j < ns.length := by simp only at e; omega
      rw [gl j hjl, ← vrj l1 j hjl e]; exact v1
theorem snoc_txt {n : Nat} {ns : List Nd} {x : Nd} (h : Txt n (ns ++ [x])) : x.1 < n ∧ x.2.1 < ns.length + 2 ∧ x.2.2 < ns.length + 2 ∧ x.1 < vr n ns x.2.1 ∧ x.1 < vr n ns x.2.2 := by
  have gl : ∀ k (hk : k < ns.length), (ns ++ [x])[k]'(by simp; omega) = ns[k] := fun k hk => List.getElem_append_left hk
  have gr : (ns ++ [x])[ns.length]'(by simp) = x := by simp
  have hv := h.var ns.length (by simp)
  have hno := h.no ns.length (by simp)
  have hyes := h.yes ns.length (by simp)
  rw [gr] at hv hno hyes
  refine ⟨hv, hno.1, hyes.1, ?_, ?_⟩
  · unfold vr
    split
    · exact hv
    · have hj : x.2.1 - 2 < ns.length := by omega
      have := hno.2 (x.2.1 - 2) (by simp; omega) (by omega)
      rw [gl _ hj] at this
      simpa [List.getD, hj] using this
  · unfold vr
    split
    · exact hv
    · have hj : x.2.2 - 2 < ns.length := by omega
      have := hyes.2 (x.2.2 - 2) (by simp; omega) (by omega)
      rw [gl _ hj] at this
      simpa [List.getD, hj] using this
theorem tb_snoc {n v l0 l1 : Nat} {ns : List Nd} (h : Txt n (ns ++ [(v, l0, l1)])) : tb n (ns ++ [(v, l0, l1)]) (ns.length + 2) = Cho.bld (fun p => if p.testBit v then (tb n ns l1).testBit p else (tb n ns l0).testBit p) (2 ^ n) := by
  obtain ⟨_, h0, h1, _⟩ := snoc_txt h
  simp only at h0 h1
  have hw := (txt_front h).wf
  apply Tab.ext (Cho.tb_tab _ _ _) (Cho.bld_tab _ _)
  intro p hp
  have gr : (ns ++ [(v, l0, l1)])[ns.length]'(by simp) = (v, l0, l1) := by simp
  rw [Cho.tb_bit _ _ _ _ hp, Cho.ev_node h.wf p (by simp), gr, Cho.bld_testBit]
  simp only [hp, decide_true, Bool.true_and]
  rw [Cho.tb_bit _ _ _ _ hp, Cho.tb_bit _ _ _ _ hp, Cho.ev_append hw p _ h0, Cho.ev_append hw p _ h1]

theorem vr_le {n : Nat} {ns : List Nd} (h : Txt n ns) (l : Nat) : vr n ns l ≤ n := by
  unfold vr
  split
  · exact Nat.le_refl _
  · by_cases hj : l - 2 < ns.length
    · have := h.var _ hj
      simp [List.getD, hj]; omega
    · simp [List.getD, List.getElem?_eq_none (by omega : ns.length ≤ l - 2)]
/-- What Export answers of a function, or of none. -/
def expA (n : Nat) : Option Nat → List UInt8 × Nat
  | some f => (textOf n f, 0)
  | none => ([], 2)

end Go.Proofs.YthoodkbdpnffdabGreatDoor

/-
  Own work: the document's answer: numbers in decimal digits (a walk).
-/
namespace Go.Proofs.YthoodkbdpnffdabGreatDoor
open Go.RowKit
open Cho (U64 Tab full col decL dgt)

theorem decL_le (n : Nat) : (decL n).length ≤ n + 1 := by
  induction n using Nat.strongRecOn with
  | ind n ih =>
    by_cases h : n < 10
    · rw [Cho.decL_small h]; simp
    · rw [Cho.decL_big h, List.length_append]
      have := ih (n / 10) (by omega)
      simp only [List.length_cons, List.length_nil]; omega

set_option maxRecDepth 100000 in
set_option maxHeartbeats 400000 in
theorem rdecimal_calls (n : Nat) : n ≤ 1000000 → ∀ (w : World), Calls Tryz.prog 128 #[.int .i64 n] w fun e w' => e = .returned (txt (decL n)) ∧ Below w.heap.size w w' := by
  induction n using Nat.strongRecOn with
  | ind n ih =>
    intro hn w
    have IH : Hid (∀ m, m < n → m ≤ 1000000 → ∀ (w : World), Calls Tryz.prog 128 #[.int .i64 m] w fun e w' => e = .returned (txt (decL m)) ∧ Below w.heap.size w w') := ih
    clear ih
    have hd : (dgt (n % 10)).toNat = 48 + n % 10 := Cho.dgt_toNat (by omega)
    have hcv : (convert 179 9 (.slice (some ⟨w.heap.size, 0, none⟩) 1 1)).run Tryz.prog (w.alloc (.cells #[.int .u8 (48 + (n : Int) % 10)] 5)) = .ok (.string ⟨[dgt (n % 10)].toArray⟩) (w.alloc (.cells #[.int .u8 (48 + (n : Int) % 10)] 5)) := by
      refine run_convert_bytes_back (P := Tryz.prog) _ 179 9 5 ⟨w.heap.size, 0, none⟩ 1 [dgt (n % 10)] Tryz.underlying179 Tryz.underlying5 Tryz.underlying9 (fun j hj => ?_)
      have e : (48 + (n : Int) % 10) = ((dgt (n % 10)).toNat : Int) := by rw [hd]; omega
      rw [e]
      obtain rfl : j = 0 := by simpa using hj
      exact new_cells w [.int .u8 ((dgt (n % 10)).toNat : Int)] _ 0 _ rfl
    clear hd
    by_cases h10 : n < 10
    · have HE : Hid (decL n = [dgt (n % 10)]) := by show decL n = _; rw [Cho.decL_small h10, Nat.mod_eq_of_lt h10]
      generalize dgt (n % 10) = D at *
      go_enter Tryz.func128, Tryz.ntmps128
      go_wp2_with fail
      go_ret
      rw [HE.out]
      exact ⟨rfl, below_alloc _ _⟩
    · have HE : Hid (decL n = decL (n / 10) ++ [dgt (n % 10)]) := Cho.decL_big h10
      generalize dgt (n % 10) = D at *
      have KD : Hid (Calls Tryz.prog 128 #[.int .i64 ((n : Int) / 10)] (w.alloc (.cells #[.int .u8 (48 + (n : Int) % 10)] 5)) fun e w' => e = .returned (txt (decL (n / 10))) ∧ Below (w.alloc (.cells #[.int .u8 (48 + (n : Int) % 10)] 5)).heap.size (w.alloc (.cells #[.int .u8 (48 + (n : Int) % 10)] 5)) w') := by
        have := IH.out (n / 10) (by omega) (by omega) (w.alloc (.cells #[.int .u8 (48 + (n : Int) % 10)] 5))
        rw [show ((n / 10 : Nat) : Int) = (n : Int) / 10 from by omega] at this
        exact this
      have hl2 : (decL (n / 10)).length ≤ 1000001 := Nat.le_trans (decL_le _) (by omega)
      go_enter Tryz.func128, Tryz.ntmps128
      go_wp2_with fail
      refine KD.out.mono ?_
      rintro e w1 ⟨rfl, b1⟩
      have B1 : Hid (Below w.heap.size w w1) := below_trans (below_alloc _ _) b1
      clear b1 KD hcv
      generalize decL (n / 10) = L at *
      unfold txt
      have hsz := txt_size L
      have hsz1 := txt_size [D]
      go_wp2_with fail
      go_ret
      refine ⟨?_, B1.out⟩
      rw [HE.out]
      exact congrArg (fun x => Ending.returned (.string x)) (txt_app L [D])
end Go.Proofs.YthoodkbdpnffdabGreatDoor

/-
  Own work: the document's answer: a link in a text that is written (a walk).
-/
namespace Go.Proofs.YthoodkbdpnffdabGreatDoor
open Go.RowKit
open Cho (U64 Tab full col decL dgt Nd Red lnk rend tb)

/-- The tables of the items. -/
def tabsN (n : Nat) (ns : List Nd) : List Nat := (List.range ns.length).map fun j => tb n ns (j + 2)
theorem tabsN_len (n : Nat) (ns : List Nd) : (tabsN n ns).length = ns.length := by simp [tabsN]
/-- A text that is being written, since the world w0. -/
structure Wri (w0 w : World) (wb y n : Nat) (v : Value) (ns : List Nd) : Prop where
  blk : w.heap[wb]? = some (.cells #[.pointer (some ⟨y, 0, none⟩), v, txt (rend ns)] 143 (0, 0))
  row : w.ownsRow w0.heap.size 31 1 v ns.length (uv (tabsN n ns))
  bel : Below w0.heap.size w0 w
  lo : w0.heap.size ≤ wb
  n0 : w0.cell? ⟨y, 0, none⟩ = some (.int .i64 (n : Nat))
  n1 : 1 ≤ n
  n6 : n ≤ 6
  red : Red (List.range n) ns
  few : ns.length ≤ 63
section
variable {w0 w w' : World} {wb y n : Nat} {v : Value} {ns : List Nd}
theorem Wri.below (h : Wri w0 w wb y n v ns) (hb : Below w.heap.size w w') : Wri w0 w' wb y n v ns :=
  ⟨(hb.block wb (lt_of_block h.blk)).trans h.blk, owns_kept h.row fun g hg => hb.block g (h.row.lt g hg).2, below_trans h.bel hb, h.lo, h.n0, h.n1, h.n6, h.red, h.few⟩
theorem Wri.y0 (h : Wri w0 w wb y n v ns) : w.cell? ⟨y, 0, none⟩ = some (.int .i64 (n : Nat)) := cell_below h.n0 h.bel
theorem Wri.rowU (h : Wri w0 w wb y n v ns) : RowU w v (tabsN n ns) := by
  obtain ⟨ao, cap, rfl⟩ := owns_slice h.row
  refine ⟨ao, cap, by rw [tabsN_len], fun i hi => ?_⟩
  rw [tabsN_len] at hi
  obtain ⟨g, cap', e, _⟩ := owns_form h.row (by omega)
  simp only [Value.slice.injEq] at e
  obtain ⟨rfl, _, _⟩ := e
  refine ⟨g, rfl, ?_⟩
  have := h.row.cells (g := g) rfl i (.int .u64 ((tabsN n ns)[i]'(by rw [tabsN_len]; exact hi) : Nat)) (by simp [uv, tabsN_len, hi])
  rw [Addr.add_mid, Nat.zero_add] at this
  exact this
end
theorem tabsN_get {n : Nat} {ns : List Nd} {i : Nat} (hi : i < (tabsN n ns).length) : (tabsN n ns)[i] = tb n ns (i + 2) := by simp [tabsN]

set_option maxRecDepth 100000 in
set_option maxHeartbeats 1000000 in
theorem rlink_calls (w0 w : World) (wb y n l t : Nat) (v : Value) (ns : List Nd) (h : Wri w0 w wb y n v ns) (hl : l < ns.length + 2) (ht : tb n ns l = t) :
    Calls Tryz.prog 129 #[.pointer (some ⟨wb, 0, none⟩), .int .u64 t] w fun e w' => e = .returned (txt (lnk l)) ∧ Below w.heap.size w w' := by
  have H : Hid (Wri w0 w wb y n v ns) := h
  have hT : Tab n t := by rw [← ht]; exact Cho.tb_tab _ _ _
  have hd := Cho.red_dia h.n1 h.n6 h.red
  have c0 : w.cell? ⟨wb, 0, none⟩ = some (.pointer (some ⟨y, 0, none⟩)) := cell_of_block h.blk 0
  have c1 : w.cell? ⟨wb, 1, none⟩ = some v := cell_of_block h.blk 1
  by_cases l0 : l = 0
  · subst l0
    have e0 : t = 0 := by rw [← ht]; exact Cho.tb_zero n ns
    subst e0
    clear h hT hd c0 c1 ht
    go_enter Tryz.func129, Tryz.ntmps129
    go_wp2_with fail
    go_ret
    exact ⟨rfl, Below.refl _ _⟩
  · have t0 : t ≠ 0 := by
      intro e
      exact l0 (hd.inj hl (by omega) (by rw [ht, e, Cho.tb_zero]))
    by_cases l1 : l = 1
    · subst l1
      have e1 : t = full n := by rw [← ht]; exact Cho.tb_one n ns
      have hb0 : ((t : Int) == 0) = false := by simp; omega
      have KF : Hid (Calls Tryz.prog 68 #[.pointer (some ⟨y, 0, none⟩)] w fun e w' => e = .returned (.int .u64 (t : Nat)) ∧ w' = w) := by
        rw [e1]; exact rfull_calls y n w h.y0 h.n6
      clear h hT hd c1 ht e1
      go_enter Tryz.func129, Tryz.ntmps129
      go_wp2_with fail
      refine KF.out.mono ?_
      rintro e w1 ⟨rfl, rfl⟩
      go_wp2_with fail
      go_ret
      exact ⟨rfl, Below.refl _ _⟩
    · have t1 : t ≠ full n := by
        intro e
        exact l1 (hd.inj hl (by omega) (by rw [ht, e, Cho.tb_one]))
      obtain ⟨j, rfl⟩ : ∃ j, l = j + 2 := ⟨l - 2, by omega⟩
      have hj : j < ns.length := by omega
      have hU := Cho.full_u64 n h.n6
      have hU' := hU.lt
      have hb0 : ((t : Int) == 0) = false := by simp; omega
      have hb1 : ((t : Int) == (full n : Nat)) = false := by simp; omega
      have KF : Hid (Calls Tryz.prog 68 #[.pointer (some ⟨y, 0, none⟩)] w fun e w' => e = .returned (.int .u64 (full n : Nat)) ∧ w' = w) := rfull_calls y n w h.y0 h.n6
      have KD : Hid (Calls Tryz.prog 128 #[.int .i64 j] w fun e w' => e = .returned (txt (lnk (j + 2))) ∧ Below w.heap.size w w') := by
        have := rdecimal_calls j (by have := h.few; omega) w
        have e : lnk (j + 2) = decL j := by unfold lnk; rw [if_neg (by omega), if_neg (by omega), show j + 2 - 2 = j from by omega]
        rw [e]; exact this
      obtain ⟨ao, cap, rfl, hc⟩ := h.rowU
      rw [tabsN_len] at c1
      have HC : Hid (∀ i, i ≤ j → ∃ g, ao = some ⟨g, 0, none⟩ ∧ w.cell? ⟨g, i, none⟩ = some (.int .u64 (tb n ns (i + 2) : Nat))) := by
        intro i hi
        have hi' : i < (tabsN n ns).length := by rw [tabsN_len]; omega
        obtain ⟨g, e, h1⟩ := hc i hi'
        rw [tabsN_get hi'] at h1
        exact ⟨g, e, h1⟩
      have HNE : Hid (∀ i, i < j → tb n ns (i + 2) ≠ t) := by
        intro i hi e
        have := hd.inj (l := i + 2) (l' := j + 2) (by omega) hl (by rw [ht]; exact e)
        omega
      have HTJ : Hid (tb n ns (j + 2) = t) := ht
      have hfew := h.few
      clear h hT hd hc ht hU hU' l0 l1 t0 t1 hl
      generalize full n = F at *
      go_enter Tryz.func129, Tryz.ntmps129
      go_wp2_with fail
      refine KF.out.mono ?_
      rintro e w1 ⟨rfl, rfl⟩
      go_wp2_with fail
      go_loopw [5] (fun x5 wr => ∃ i : Nat, i ≤ j ∧ x5 = .int .i64 i ∧ wr = w1) (fun x5 _ => j - (intOf x5).toNat)
      case atStart => exact ⟨0, Nat.zero_le _, rfl, rfl⟩
      case round =>
        obtain ⟨i, hi, rfl, rfl⟩ := hrel
        obtain ⟨g, rfl, hg⟩ := HC.out i hi
        have hil : (i : Int) < (ns.length : Int) := by omega
        by_cases hij : i < j
        · have hne := HNE.out i hij
          generalize tb n ns (i + 2) = u at *
          have hbu : ((u : Int) == (t : Int)) = false := by simp; omega
          go_wp2_with fail
          exact ⟨⟨i + 1, hij, by go_num, trivial⟩, by simp [intOf]; omega⟩
        · have hij' : i = j := by omega
          subst hij'
          rw [HTJ.out] at hg
          go_wp2_with fail
          refine KD.out.mono ?_
          rintro e w2 ⟨rfl, b2⟩
          have B2 : Hid _ := b2
          clear b2 KD
          generalize hL : lnk (i + 2) = L at *
          have HL : Hid (lnk (i + 2) = L) := hL
          clear hL
          unfold txt
          go_wp2_with fail
          go_ret
          rw [HL.out]
          exact ⟨rfl, B2.out⟩
end Go.Proofs.YthoodkbdpnffdabGreatDoor
