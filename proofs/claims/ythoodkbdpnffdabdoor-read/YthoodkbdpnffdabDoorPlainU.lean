/-
  Own work: a function among more variables: what its text says, and how it is written (plain mathematics).
-/
import Derived.Test.YthoodkbdpnffdabDoorPlainT
namespace Cho

/-- The same function among m variables. -/
def ext (n m t : Nat) : Nat := bld (fun p => t.testBit (p % 2 ^ n)) (2 ^ m)
theorem ext_tab (n m t : Nat) : Tab m (ext n m t) := bld_tab _ _
theorem ext_bit {n m t p : Nat} (hp : p < 2 ^ m) : (ext n m t).testBit p = t.testBit (p % 2 ^ n) := by unfold ext; rw [bld_testBit]; simp [hp]
theorem mod_put {n p k : Nat} (hk : k < n) (b : Bool) : put p k b % 2 ^ n = put (p % 2 ^ n) k b := by
  apply Nat.eq_of_testBit_eq
  intro i
  rw [Nat.testBit_mod_two_pow, put_testBit, put_testBit, Nat.testBit_mod_two_pow]
  by_cases e : i = k
  · subst e; simp [hk]
  · simp [e]
theorem ext_fix {n m t k : Nat} (hnm : n ≤ m) (h6 : m ≤ 6) (hk : k < n) (ht : Tab n t) (b : Bool) : fix (ext n m t) k b = ext n m (fix t k b) := by
  have hk' : k < m := by omega
  apply Tab.ext (fix_tab k b (ext_tab n m t) h6 hk') (ext_tab _ _ _)
  intro p hp
  rw [fix_at k p b (ext_tab n m t) h6 hk' hp, ext_bit (put_lt p k m b hk' hp), ext_bit hp, fix_at k _ b ht (by omega) hk (Nat.mod_lt _ (Nat.two_pow_pos _)), mod_put hk]
theorem ext_zero (n m : Nat) : ext n m 0 = 0 := by
  apply Tab.ext (ext_tab n m 0) (Nat.two_pow_pos _)
  intro p hp
  rw [ext_bit hp]; simp
theorem ext_full (n m : Nat) : ext n m (full n) = full m := by
  apply Tab.ext (ext_tab n m _) (full_tab m)
  intro p hp
  rw [ext_bit hp, full_testBit, full_testBit]
  simp [hp, Nat.mod_lt _ (Nat.two_pow_pos n)]
theorem ext_inj {n m t u : Nat} (hnm : n ≤ m) (ht : Tab n t) (hu : Tab n u) (h : ext n m t = ext n m u) : t = u := by
  apply Tab.ext ht hu
  intro p hp
  have hpm : p < 2 ^ m := Nat.lt_of_lt_of_le hp (Nat.pow_le_pow_right (by decide) hnm)
  have := congrArg (fun x => Nat.testBit x p) h
  simp only [ext_bit hpm, Nat.mod_eq_of_lt hp] at this
  exact this
theorem ext_low {n m t : Nat} (hnm : n ≤ m) (h6 : m ≤ 6) (ht : Tab n t) {k : Nat} (hk : k ≤ n) (hl : Low n k t) : Low m k (ext n m t) := by
  intro v hv _ b
  rw [ext_fix hnm h6 (by omega) ht, hl v hv (by omega)]
/-- A function that hangs on no variable is the same everywhere. -/
theorem low_all {n t : Nat} (h6 : n ≤ 6) (ht : Tab n t) (hl : Low n n t) : t = if t.testBit 0 then full n else 0 := by
  have key : ∀ p, p < 2 ^ n → t.testBit p = t.testBit 0 := by
    intro p hp
    have := low_mask h6 ht p hp n (Nat.le_refl _) hl
    rw [Nat.sub_self] at this
    exact this.symm
  split
  · rename_i h
    apply Tab.ext ht (full_tab n)
    intro p hp
    rw [key p hp, h, full_testBit]; simp [hp]
  · rename_i h
    apply Tab.ext ht (Nat.two_pow_pos _)
    intro p hp
    rw [key p hp]; simp at h; simp [h]
theorem sup_ext {n m : Nat} (h1 : 1 ≤ n) (hnm : n ≤ m) (h6 : m ≤ 6) : ∀ d k, n - k = d → k ≤ n → ∀ t, Tab n t → Low n k t → ∀ ns, Red (List.range m) ns → sup m k (ext n m t) ns = sup n k t ns := by
  intro d
  induction d with
  | zero =>
    intro k hd hk t ht hl ns hr
    obtain rfl : k = n := by omega
    have ht' := low_all (by omega) ht hl
    have e : sup k k t ns = (ns, if t.testBit 0 then 1 else 0) := by
      show build (List.range' k (k - k)) t ns = _
      rw [Nat.sub_self]; rfl
    rw [e]
    by_cases hb : t.testBit 0 = true
    · rw [if_pos hb] at ht' ⊢
      rw [ht', ext_full]
      exact sup_full (by omega) h6 hnm hr
    · rw [if_neg hb] at ht' ⊢
      rw [ht', ext_zero]
      exact sup_zero (by omega) h6 hnm hr
  | succ d ih =>
    intro k hd hk t ht hl ns hr
    have hkn : k < n := by omega
    have f0 := fix_tab k false ht (by omega) hkn
    have f1 := fix_tab k true ht (by omega) hkn
    have l0 := low_fix (show n ≤ 6 by omega) hkn ht hl false
    have l1 := low_fix (show n ≤ 6 by omega) hkn ht hl true
    have e0 := ih (k + 1) (by omega) (by omega) _ f0 l0 ns hr
    have b0 := build_blt (n := m) h6 (show k + 1 ≤ m by omega) (ext_tab n m (fix t k false)) (ext_low hnm h6 f0 (by omega) l0) hr
    have e1 := ih (k + 1) (by omega) (by omega) _ f1 l1 (sup m (k + 1) (ext n m (fix t k false)) ns).1 b0.red
    show build (List.range' k (m - k)) (ext n m t) ns = build (List.range' k (n - k)) t ns
    rw [range_cons hkn, range_cons (show k < m by omega)]
    simp only [build, ext_fix hnm h6 hkn ht]
    change join (sup m (k + 1) (ext n m (fix t k true)) (sup m (k + 1) (ext n m (fix t k false)) ns).1).1 (k, (sup m (k + 1) (ext n m (fix t k false)) ns).2, (sup m (k + 1) (ext n m (fix t k true)) (sup m (k + 1) (ext n m (fix t k false)) ns).1).2) = join (sup n (k + 1) (fix t k true) (sup n (k + 1) (fix t k false) ns).1).1 (k, (sup n (k + 1) (fix t k false) ns).2, (sup n (k + 1) (fix t k true) (sup n (k + 1) (fix t k false) ns).1).2)
    rw [e1, e0]
/-- THE TEXT OF A FUNCTION IS THE SAME AMONG MORE VARIABLES. -/
theorem text_ext {n m t : Nat} (h1 : 1 ≤ n) (hnm : n ≤ m) (h6 : m ≤ 6) (ht : Tab n t) : textOf m (ext n m t) = textOf n t := by
  have z : ext n m t = 0 ↔ t = 0 := ⟨fun h => ext_inj hnm ht (Nat.two_pow_pos _) (by rw [h, ext_zero]), fun h => by rw [h, ext_zero]⟩
  have f : ext n m t = full m ↔ t = full n := ⟨fun h => ext_inj hnm ht (full_tab n) (by rw [h, ext_full]), fun h => by rw [h, ext_full]⟩
  have e : nodesOf m (ext n m t) = nodesOf n t := by
    unfold nodesOf
    rw [sup_ext h1 hnm h6 n 0 (by omega) (by omega) t ht (low0 n t) [] (Red.nil _)]
  unfold textOf
  simp only [z, f, e]
theorem txt_more {n m : Nat} (hnm : n ≤ m) {ns : List Nd} (h : Txt n ns) : Txt m ns := ⟨fun k hk => by have := h.var k hk; omega, h.no, h.yes⟩
theorem txt_mask {n : Nat} {ns : List Nd} (h : Txt n ns) (p : Nat) : ∀ l, l < ns.length + 2 → ev ns l p = ev ns l (p % 2 ^ n) := by
  intro l
  induction l using Nat.strongRecOn with
  | ind l ih =>
    intro hl
    by_cases h2 : l < 2
    · rw [ev_small _ _ _ h2, ev_small _ _ _ h2]
    · obtain ⟨k, rfl⟩ : ∃ k, l = k + 2 := ⟨l - 2, by omega⟩
      have hk : k < ns.length := by omega
      have hv := h.var k hk
      have hno := (h.no k hk).1
      have hyes := (h.yes k hk).1
      rw [ev_node h.wf _ hk, ev_node h.wf _ hk, Nat.testBit_mod_two_pow]
      rw [ih ns[k].2.1 (by omega) (by omega), ih ns[k].2.2 (by omega) (by omega)]
      simp [hv]
/-- READ AMONG MORE VARIABLES IT SAYS THE SAME. -/
theorem says_more {n m : Nat} (hnm : n ≤ m) {bs : List UInt8} {f : Nat} (h : Says n bs f) : Says m bs (ext n m f) := by
  rcases h with ⟨rfl, rfl⟩ | ⟨rfl, rfl⟩ | ⟨ns, hx, hne, rfl, rfl⟩
  · exact .inl ⟨rfl, ext_zero n m⟩
  · exact .inr (.inl ⟨rfl, ext_full n m⟩)
  · refine .inr (.inr ⟨ns, txt_more hnm hx, hne, rfl, ?_⟩)
    apply Tab.ext (ext_tab _ _ _) (tb_tab _ _ _)
    intro p hp
    rw [ext_bit hp, tb_bit _ _ _ _ (Nat.mod_lt _ (Nat.two_pow_pos _)), tb_bit _ _ _ _ hp, ← txt_mask hx p _ (by omega)]
/-- What a text says, if it is one. -/
noncomputable def readT (n : Nat) (bs : List UInt8) : Option Nat := @dite _ (bs.length ≤ 2000 ∧ ∃ f, Says n bs f) (Classical.propDecidable _) (fun h => some (Classical.choose h.2)) (fun _ => none)
theorem readT_some {n : Nat} {bs : List UInt8} {f : Nat} (hn : n ≤ 6) (hl : bs.length ≤ 2000) (h : Says n bs f) : readT n bs = some f := by
  unfold readT
  rw [dif_pos ⟨hl, f, h⟩]
  exact congrArg some (says_one hn (Classical.choose_spec (⟨f, h⟩ : ∃ f, Says n bs f)) h)
theorem readT_none {n : Nat} {bs : List UInt8} (h : ¬ (bs.length ≤ 2000 ∧ ∃ f, Says n bs f)) : readT n bs = none := by
  unfold readT
  rw [dif_neg h]
theorem readT_says {n : Nat} {bs : List UInt8} {f : Nat} (h : readT n bs = some f) : Says n bs f ∧ bs.length ≤ 2000 := by
  unfold readT at h
  split at h
  · rename_i hx
    have := Classical.choose_spec hx.2
    rw [Option.some.inj h] at this
    exact ⟨this, hx.1⟩
  · cases h
end Cho
