/-
  Own work: numbers at a place of a text (plain mathematics).
-/
import Derived.Test.YthoodkbdpnffdabGreatDoorRefZ
import Derived.Test.YthoodkbdpnffdabGreatDoorPlainL
import Derived.Test.YthoodkbdpnffdabGreatDoorCallA
import Derived.Deep.RegionHeld3
namespace Cho

/-- The sign is a digit. -/
def isD (c : UInt8) : Bool := decide (48 ≤ c.toNat) && decide (c.toNat ≤ 57)
theorem isD_dgt {d : Nat} (h : d < 10) : isD (dgt d) = true := by
  unfold isD
  rw [dgt_toNat h]
  simp; omega
theorem isD_of {c : UInt8} (h : isD c = true) : ∃ d, d < 10 ∧ c = dgt d ∧ c.toNat = 48 + d := by
  simp [isD] at h
  refine ⟨c.toNat - 48, by omega, ?_, by omega⟩
  apply UInt8.toNat_inj.1
  rw [dgt_toNat (by omega)]; omega
theorem isD_dec (n : Nat) : ∀ c ∈ decL n, isD c = true := fun c hc => by
  have := decL_digit n c hc
  simp [isD]; omega
theorem decL_ten {k d : Nat} (hk : 0 < k) (hd : d < 10) : decL (k * 10 + d) = decL k ++ [dgt d] := by
  rw [decL_big (by omega), show (k * 10 + d) / 10 = k from by omega, show (k * 10 + d) % 10 = d from by omega]
theorem decL_front : ∀ b a : Nat, decL a <+: decL b → a ≤ b := by
  intro b
  induction b using Nat.strongRecOn with
  | ind b ih =>
    intro a h
    by_cases hb : b < 10
    · rw [decL_small hb] at h
      have hl := h.length_le
      have hp := decL_pos a
      have : decL a = [dgt b] := h.eq_of_length (by simp at hl ⊢; omega)
      rw [← decL_small hb] at this
      exact Nat.le_of_eq (decL_inj _ _ this)
    · rw [decL_big hb, List.prefix_concat_iff] at h
      rcases h with h | h
      · rw [← decL_big hb] at h
        exact Nat.le_of_eq (decL_inj _ _ h)
      · have := ih (b / 10) (by omega) a h
        omega
theorem dec_tw (a : Nat) (s : List UInt8) : (decL a ++ s).takeWhile isD = decL a ++ s.takeWhile isD := List.takeWhile_append_of_pos (isD_dec a)
theorem dec_over {a b : Nat} {s r : List UInt8} {c : UInt8} (h : decL a ++ s = decL b ++ c :: r) (hc : isD c = false) : a ≤ b := by
  have := congrArg (List.takeWhile isD) h
  rw [dec_tw, dec_tw] at this
  simp [hc] at this
  exact decL_front b a ⟨_, this⟩
theorem dec_cut {a b : Nat} {s r : List UInt8} {c : UInt8} (h : decL a ++ s = decL b ++ c :: r) (hc : isD c = false) (hs : ∀ x, s[0]? = some x → isD x = false) : a = b := by
  have := congrArg (List.takeWhile isD) h
  rw [dec_tw, dec_tw] at this
  have e : s.takeWhile isD = [] := by
    cases s with
    | nil => rfl
    | cons x s => have := hs x rfl; simp [this]
  simp [hc, e] at this
  exact decL_inj _ _ this
/-- Which number stands at a place. -/
structure NumAt (bs : List UInt8) (m k : Nat) (x : Int) (k' : Nat) : Prop where
  yes : 0 ≤ x → ∃ j : Nat, x = j ∧ bs.drop k = decL j ++ bs.drop k' ∧ k' = k + (decL j).length
  all : ∀ j c r, j < m → bs.drop k = decL j ++ c :: r → isD c = false → x = j
  le : k' ≤ bs.length
theorem drop_at {bs : List UInt8} {k : Nat} {c : UInt8} (h : bs[k]? = some c) : bs.drop k = c :: bs.drop (k + 1) := by
  obtain ⟨hk, rfl⟩ := List.getElem?_eq_some_iff.1 h
  exact List.drop_eq_getElem_cons hk
theorem at_drop (bs : List UInt8) (k : Nat) : (bs.drop k)[0]? = bs[k]? := by simp
theorem num_none {bs : List UInt8} {m k : Nat} (h : ∀ c, bs[k]? = some c → isD c = false) (hk : k ≤ bs.length) : NumAt bs m k (-1) k := by
  refine ⟨fun h => absurd h (by decide), fun j c r _ hd _ => ?_, hk⟩
  have h0 := at_drop bs k
  rw [hd] at h0
  cases hj : decL j with
  | nil => exact absurd hj (decL_ne j)
  | cons x l =>
    rw [hj] at h0
    have h1 := isD_dec j x (by rw [hj]; simp)
    have h2 := h x (by rw [← h0]; rfl)
    rw [h1] at h2; cases h2
theorem num_zero {bs : List UInt8} {m k : Nat} (h : bs[k]? = some (dgt 0)) : NumAt bs m k 0 (k + 1) := by
  have hk := (List.getElem?_eq_some_iff.1 h).1
  have e : decL 0 = [dgt 0] := decL_small (by decide)
  refine ⟨fun _ => ⟨0, rfl, by rw [e, drop_at h]; rfl, by rw [e]; rfl⟩, fun j c r _ hd _ => ?_, hk⟩
  have hx : dgt 0 :: bs.drop (k + 1) = decL j ++ c :: r := by rw [← hd, drop_at h]
  by_cases hj : j < 10
  · rw [decL_small hj] at hx
    have := dgt_inj (by decide) hj (List.cons.inj hx).1
    omega
  · exfalso
    have hh : ∀ i, 0 < i → ∀ l, decL i = dgt 0 :: l → False := by
      intro i
      induction i using Nat.strongRecOn with
      | ind i ih =>
        intro hi l hl
        by_cases h10 : i < 10
        · rw [decL_small h10] at hl
          have := dgt_inj h10 (by decide) (List.cons.inj hl).1
          omega
        · rw [decL_big h10] at hl
          cases hq : decL (i / 10) with
          | nil => exact absurd hq (decL_ne _)
          | cons x q =>
            rw [hq] at hl
            have e2 := (List.cons.inj hl).1
            exact ih (i / 10) (by omega) (by omega) q (by rw [hq, e2])
    cases hq : decL j with
    | nil => exact absurd hq (decL_ne _)
    | cons x q =>
      rw [hq] at hx
      exact hh j (by omega) q (by rw [hq, (List.cons.inj hx).1])
/-- While a number is read. -/
structure Reading (bs : List UInt8) (k j k' : Nat) : Prop where
  pos : 0 < j
  eq : bs.drop k = decL j ++ bs.drop k'
  at' : k' = k + (decL j).length
  le : k' ≤ bs.length
theorem reading0 {bs : List UInt8} {k d : Nat} (h : bs[k]? = some (dgt d)) (hd : 0 < d) (h10 : d < 10) : Reading bs k d (k + 1) :=
  ⟨hd, by rw [decL_small h10, drop_at h]; rfl, by rw [decL_small h10]; rfl, (List.getElem?_eq_some_iff.1 h).1⟩
theorem Reading.step {bs : List UInt8} {k j k' d : Nat} (h : Reading bs k j k') (hd : d < 10) (e : bs[k']? = some (dgt d)) : Reading bs k (j * 10 + d) (k' + 1) := by
  refine ⟨by have := h.pos; omega, ?_, ?_, (List.getElem?_eq_some_iff.1 e).1⟩
  · rw [decL_ten h.pos hd, h.eq, drop_at e]; simp
  · rw [decL_ten h.pos hd, h.at']; simp; omega
theorem Reading.over {bs : List UInt8} {m k j k' : Nat} (h : Reading bs k j k') (hm : m ≤ j) : NumAt bs m k (-1) k' := by
  refine ⟨fun h => absurd h (by decide), fun i c r hi hd hc => ?_, h.le⟩
  have := dec_over (h.eq.symm.trans hd) hc
  omega
theorem Reading.done {bs : List UInt8} {m k j k' : Nat} (h : Reading bs k j k') (e : ∀ c, bs[k']? = some c → isD c = false) : NumAt bs m k j k' := by
  refine ⟨fun _ => ⟨j, rfl, h.eq, h.at'⟩, fun i c r hi hd hc => ?_, h.le⟩
  have := dec_cut (h.eq.symm.trans hd) hc (fun x hx => e x (by rw [← at_drop]; exact hx))
  omega
end Cho

/-
  Own work: a link and an item at a place of a text (plain mathematics).
-/
namespace Go.Proofs.YthoodkbdpnffdabGreatDoor
open Cho (U64 Tab full col decL dgt Nd Red lnk tb itm rend Txt Says isD NumAt drop_at at_drop)

/-- Which link stands at a place, of an item that asks for variable v. -/
structure LinkAt (n : Nat) (bs : List UInt8) (ns : List Nd) (v k t : Nat) (ok : Bool) (k' : Nat) : Prop where
  yes : ok = true → ∃ l, l < ns.length + 2 ∧ v < vr n ns l ∧ t = tb n ns l ∧ bs.drop k = lnk l ++ bs.drop k' ∧ k' = k + (lnk l).length
  all : ∀ l c r, l < ns.length + 2 → v < vr n ns l → bs.drop k = lnk l ++ c :: r → isD c = false → ok = true ∧ k' = k + (lnk l).length
  le : k' ≤ bs.length
  tab : Tab n t
theorem head_of {bs : List UInt8} {k : Nat} {x : UInt8} {l r : List UInt8} (h : bs.drop k = (x :: l) ++ r) : bs[k]? = some x := by
  rw [← at_drop, h]; rfl
theorem lnk_two (j : Nat) : lnk (j + 2) = decL j := by simp [lnk]
theorem dec_head {bs : List UInt8} {k j : Nat} {r : List UInt8} (h : bs.drop k = decL j ++ r) : ∃ c, bs[k]? = some c ∧ isD c = true := by
  cases hq : decL j with
  | nil => exact absurd hq (Cho.decL_ne j)
  | cons x q => rw [hq] at h; exact ⟨x, head_of h, Cho.isD_dec j x (by rw [hq]; simp)⟩
theorem link_n {n v k : Nat} {bs : List UInt8} {ns : List Nd} (hv : v < n) (h : bs[k]? = some 110) : LinkAt n bs ns v k 0 true (k + 1) := by
  refine ⟨fun _ => ⟨0, by omega, hv, (Cho.tb_zero n ns).symm, by rw [drop_at h]; rfl, rfl⟩, fun l c r hl _ hd _ => ⟨rfl, ?_⟩, (List.getElem?_eq_some_iff.1 h).1, Nat.two_pow_pos _⟩
  by_cases l0 : l = 0
  · subst l0; rfl
  · by_cases l1 : l = 1
    · subst l1
      have := head_of (x := 121) (l := []) hd
      rw [h] at this; exact absurd this (by decide)
    · obtain ⟨j, rfl⟩ : ∃ j, l = j + 2 := ⟨l - 2, by omega⟩
      rw [lnk_two] at hd
      obtain ⟨x, h1, h2⟩ := dec_head hd
      rw [h] at h1; simp at h1; subst h1; exact absurd h2 (by decide)
theorem link_y {n v k : Nat} {bs : List UInt8} {ns : List Nd} (hv : v < n) (h : bs[k]? = some 121) : LinkAt n bs ns v k (full n) true (k + 1) := by
  refine ⟨fun _ => ⟨1, by omega, hv, (Cho.tb_one n ns).symm, by rw [drop_at h]; rfl, rfl⟩, fun l c r hl _ hd _ => ⟨rfl, ?_⟩, (List.getElem?_eq_some_iff.1 h).1, Cho.full_tab n⟩
  by_cases l0 : l = 0
  · subst l0
    have := head_of (x := 110) (l := []) hd
    rw [h] at this; exact absurd this (by decide)
  · by_cases l1 : l = 1
    · subst l1; rfl
    · obtain ⟨j, rfl⟩ : ∃ j, l = j + 2 := ⟨l - 2, by omega⟩
      rw [lnk_two] at hd
      obtain ⟨x, h1, h2⟩ := dec_head hd
      rw [h] at h1; simp at h1; subst h1; exact absurd h2 (by decide)
theorem link_num {k k' l : Nat} {x : Int} {c : UInt8} {bs r : List UInt8} {ns : List Nd} (h : NumAt bs ns.length k x k') (hn : bs[k]? ≠ some 110) (hy : bs[k]? ≠ some 121) (hl : l < ns.length + 2) (hd : bs.drop k = lnk l ++ c :: r) (hc : isD c = false) :
    ∃ j : Nat, l = j + 2 ∧ x = j := by
  by_cases l0 : l = 0
  · subst l0; exact absurd (head_of (x := 110) (l := []) hd) hn
  · by_cases l1 : l = 1
    · subst l1; exact absurd (head_of (x := 121) (l := []) hd) hy
    · obtain ⟨j, rfl⟩ : ∃ j, l = j + 2 := ⟨l - 2, by omega⟩
      rw [lnk_two] at hd
      exact ⟨j, rfl, h.all j c r (by omega) hd hc⟩
theorem link_bad {n v k k' : Nat} {x : Int} {bs : List UInt8} {ns : List Nd} (h : NumAt bs ns.length k x k') (hn : bs[k]? ≠ some 110) (hy : bs[k]? ≠ some 121) (hx : x < 0 ∨ (ns.length : Int) ≤ x) : LinkAt n bs ns v k 0 false k' := by
  refine ⟨fun h => absurd h (by decide), fun l c r hl _ hd hc => ?_, h.le, Nat.two_pow_pos _⟩
  obtain ⟨j, rfl, rfl⟩ := link_num h hn hy hl hd hc
  omega
theorem vr_two {n j : Nat} {ns : List Nd} (hj : j < ns.length) : vr n ns (j + 2) = ns[j].1 := by
  unfold vr
  rw [if_neg (by omega), show j + 2 - 2 = j from by omega]
  simp [List.getD, hj]
theorem link_low {n v k k' j : Nat} {bs : List UInt8} {ns : List Nd} (h : NumAt bs ns.length k (j : Nat) k') (hn : bs[k]? ≠ some 110) (hy : bs[k]? ≠ some 121) (hj : j < ns.length) (hv : ns[j].1 ≤ v) : LinkAt n bs ns v k 0 false k' := by
  refine ⟨fun h => absurd h (by decide), fun l c r hl hvr hd hc => ?_, h.le, Nat.two_pow_pos _⟩
  obtain ⟨i, rfl, e⟩ := link_num h hn hy hl hd hc
  obtain rfl : j = i := by omega
  rw [vr_two hj] at hvr
  omega
theorem link_good {n v k k' j : Nat} {bs : List UInt8} {ns : List Nd} (h : NumAt bs ns.length k (j : Nat) k') (hn : bs[k]? ≠ some 110) (hy : bs[k]? ≠ some 121) (hj : j < ns.length) (hv : v < ns[j].1) : LinkAt n bs ns v k (tb n ns (j + 2)) true k' := by
  obtain ⟨i, e, h1, h2⟩ := h.yes (by omega)
  obtain rfl : j = i := by omega
  refine ⟨fun _ => ⟨j + 2, by omega, by rw [vr_two hj]; exact hv, rfl, by rw [lnk_two]; exact h1, by rw [lnk_two]; exact h2⟩, fun l c r hl hvr hd hc => ⟨rfl, ?_⟩, h.le, Cho.tb_tab _ _ _⟩
  obtain ⟨i, rfl, e⟩ := link_num h hn hy hl hd hc
  obtain rfl : j = i := by omega
  rw [lnk_two]; exact h2

/-- A table chosen by a variable, place by place. -/
theorem choose_bld {n v t u : Nat} (hn : n ≤ 6) (hv : v < n) (ht : Tab n t) (hu : Tab n u) : Cho.chooseT (col v &&& full n) u t = Cho.bld (fun p => if p.testBit v then u.testBit p else t.testBit p) (2 ^ n) := by
  have h64 := Cho.two_pow_le n hn
  apply Tab.ext (Cho.chooseT_tab hu ht) (Cho.bld_tab _ _)
  intro p hp
  rw [Cho.chooseT_testBit _ _ _ _ (Cho.and_u64 (Cho.col_u64 v)) (by omega), Nat.testBit_and, Cho.full_testBit, Cho.col_testBit v (by omega) p (by omega), Cho.bld_testBit]
  simp [hp]

/-- Whether an item stands at a place. -/
structure ItemAt (n : Nat) (bs : List UInt8) (ns : List Nd) (k : Nat) (ok : Bool) (k' : Nat) (ms : List Nd) : Prop where
  yes : ok = true → ∃ x r, bs.drop k = itm x ++ r ∧ Txt n (ns ++ [x]) ∧ k' = k + (itm x).length ∧ ms = ns ++ [x]
  no : ok = false → ∀ x r, bs.drop k = itm x ++ r → ¬ Txt n (ns ++ [x])
theorem item_split {bs r : List UInt8} {k : Nat} {x : Nd} (h : bs.drop k = itm x ++ r) : bs[k]? = some (dgt x.1) ∧ bs.drop (k + 1) = lnk x.2.1 ++ 44 :: (lnk x.2.2 ++ 59 :: r) := by
  have h0 : bs[k]? = some (dgt x.1) := by rw [← at_drop, h]; rfl
  refine ⟨h0, ?_⟩
  have := drop_at h0
  rw [h] at this
  have e : itm x ++ r = dgt x.1 :: (lnk x.2.1 ++ 44 :: (lnk x.2.2 ++ 59 :: r)) := by simp [itm]
  rw [e] at this
  exact (List.cons.inj this).2.symm
theorem sign_at {bs a r : List UInt8} {k : Nat} {c : UInt8} (h : bs.drop k = a ++ c :: r) : bs[k + a.length]? = some c ∧ bs.drop (k + a.length + 1) = r := by
  have h1 : bs.drop (k + a.length) = c :: r := by rw [← List.drop_drop, h]; simp
  have h0 : bs[k + a.length]? = some c := by rw [← at_drop, h1]; rfl
  refine ⟨h0, ?_⟩
  have := drop_at h0
  rw [h1] at this
  exact (List.cons.inj this).2.symm
section
variable {n k v : Nat} {bs : List UInt8} {ns : List Nd}
theorem item_no0 {k' : Nat} (h : ∀ d, bs[k]? = some (dgt d) → ¬ d < n) : ItemAt n bs ns k false k' ns :=
  ⟨fun h => absurd h (by decide), fun _ x r hd hx => h x.1 (item_split hd).1 (snoc_txt hx).1⟩
theorem same_var (hn : n ≤ 6) (hv : v < n) (h : bs[k]? = some (dgt v)) {x : Nd} {r : List UInt8} (hd : bs.drop k = itm x ++ r) (hx : Txt n (ns ++ [x])) : x.1 = v := by
  have h1 := (item_split hd).1
  have := (snoc_txt hx).1
  rw [h] at h1
  exact (Cho.dgt_inj (by omega) (by omega) (Option.some.inj h1)).symm
theorem item_no1 {k1 k' t : Nat} (hn : n ≤ 6) (hv : v < n) (h : bs[k]? = some (dgt v)) (hl : LinkAt n bs ns v (k + 1) t false k1) : ItemAt n bs ns k false k' ns := by
  refine ⟨fun h => absurd h (by decide), fun _ x r hd hx => ?_⟩
  have e := same_var hn hv h hd hx
  obtain ⟨_, s1, s2, s3, s4⟩ := snoc_txt hx
  rw [e] at s3
  exact absurd (hl.all _ _ _ s1 s3 (item_split hd).2 (by decide)).1 (by decide)
theorem item_no2 {k1 k' t : Nat} (hn : n ≤ 6) (hv : v < n) (h : bs[k]? = some (dgt v)) (hl : LinkAt n bs ns v (k + 1) t true k1) (h1 : bs[k1]? ≠ some 44) : ItemAt n bs ns k false k' ns := by
  refine ⟨fun h => absurd h (by decide), fun _ x r hd hx => ?_⟩
  have e := same_var hn hv h hd hx
  obtain ⟨_, s1, s2, s3, s4⟩ := snoc_txt hx
  rw [e] at s3
  have hk := (hl.all _ _ _ s1 s3 (item_split hd).2 (by decide)).2
  exact h1 (by rw [hk]; exact (sign_at (item_split hd).2).1)
theorem item_no3 {k1 k2 k' t u : Nat} (hn : n ≤ 6) (hv : v < n) (h : bs[k]? = some (dgt v)) (hl : LinkAt n bs ns v (k + 1) t true k1) (hl2 : LinkAt n bs ns v (k1 + 1) u false k2) : ItemAt n bs ns k false k' ns := by
  refine ⟨fun h => absurd h (by decide), fun _ x r hd hx => ?_⟩
  have e := same_var hn hv h hd hx
  obtain ⟨_, s1, s2, s3, s4⟩ := snoc_txt hx
  rw [e] at s3 s4
  have hk := (hl.all _ _ _ s1 s3 (item_split hd).2 (by decide)).2
  have h2 := (sign_at (item_split hd).2).2
  rw [← hk] at h2
  exact absurd (hl2.all _ _ _ s2 s4 h2 (by decide)).1 (by decide)
theorem item_no4 {k1 k2 k' t u : Nat} (hn : n ≤ 6) (hv : v < n) (h : bs[k]? = some (dgt v)) (hl : LinkAt n bs ns v (k + 1) t true k1) (hl2 : LinkAt n bs ns v (k1 + 1) u true k2) (h2 : bs[k2]? ≠ some 59) : ItemAt n bs ns k false k' ns := by
  refine ⟨fun h => absurd h (by decide), fun _ x r hd hx => ?_⟩
  have e := same_var hn hv h hd hx
  obtain ⟨_, s1, s2, s3, s4⟩ := snoc_txt hx
  rw [e] at s3 s4
  have hk := (hl.all _ _ _ s1 s3 (item_split hd).2 (by decide)).2
  have h3 := (sign_at (item_split hd).2).2
  rw [← hk] at h3
  have hk2 := (hl2.all _ _ _ s2 s4 h3 (by decide)).2
  exact h2 (by rw [hk2]; exact (sign_at h3).1)
/-- An item was read: what it is, and its table. -/
theorem item_yes {k1 k2 t u : Nat} (hx : Txt n ns) (hv : v < n) (h : bs[k]? = some (dgt v)) (hl : LinkAt n bs ns v (k + 1) t true k1) (h1 : bs[k1]? = some 44) (hl2 : LinkAt n bs ns v (k1 + 1) u true k2) (h2 : bs[k2]? = some 59) :
    ∃ l0 l1, ItemAt n bs ns k true (k2 + 1) (ns ++ [(v, l0, l1)]) ∧ tb n (ns ++ [(v, l0, l1)]) (ns.length + 2) = Cho.bld (fun p => if p.testBit v then u.testBit p else t.testBit p) (2 ^ n) := by
  obtain ⟨l0, a1, a2, a3, a4, a5⟩ := hl.yes rfl
  obtain ⟨l1, b1, b2, b3, b4, b5⟩ := hl2.yes rfl
  have htx := txt_snoc hx hv a1 b1 a2 b2
  have hd : bs.drop k = itm (v, l0, l1) ++ bs.drop (k2 + 1) := by
    rw [drop_at h, a4, drop_at h1, b4, drop_at h2]; simp [itm]
  refine ⟨l0, l1, ⟨fun _ => ⟨_, _, hd, htx, ?_, rfl⟩, fun h => absurd h (by decide)⟩, ?_⟩
  · simp [itm]; omega
  · rw [tb_snoc htx, ← a3, ← b3]
end
end Go.Proofs.YthoodkbdpnffdabGreatDoor

/-
  Own work: the program's reader of texts: digits, signs, numbers, links (walks).
-/
namespace Go.Proofs.YthoodkbdpnffdabGreatDoor
open Go.RowKit
open Cho (U64 Tab full col decL dgt Nd Red lnk tb itm rend Txt Says isD NumAt)

theorem Tryz.infoTItem : (Tryz.prog.info? 164).map (fun i => (i.zero, i.size, i.bytes)) = some (some (.agg #[.int .i64 0, .int .u64 0]), 2, 16) := by kernel_rfl
/-- A reader lies in block r and has come to place k; these items were read. -/
structure Rdr (w : World) (r : Nat) (bs : List UInt8) (n k : Nat) (v : Value) (ns : List Nd) : Prop where
  blk : w.heap[r]? = some (.cells #[.string ⟨bs.toArray⟩, .int .i64 (k : Nat), .int .i64 (n : Nat), v] 162 (0, 0))
  row : w.ownsRow (r + 1) 164 2 v ns.length (itv n ns)
section
variable {w w' : World} {r n k : Nat} {bs : List UInt8} {v : Value} {ns : List Nd}
theorem Rdr.lt (h : Rdr w r bs n k v ns) : r < w.heap.size := lt_of_block h.blk
theorem Rdr.below (h : Rdr w r bs n k v ns) (hb : Below w.heap.size w w') : Rdr w' r bs n k v ns :=
  ⟨(hb.block r h.lt).trans h.blk, owns_kept h.row fun g hg => hb.block g (h.row.lt g hg).2⟩
theorem Rdr.move (h : Rdr w r bs n k v ns) (k' : Nat) : Rdr (w.setCell ⟨r, 1, none⟩ (.int .i64 (k' : Nat))) r bs n k' v ns := by
  refine ⟨?_, owns_kept h.row fun g hg => block_set_other (by have := (h.row.lt g hg).1; simp; omega)⟩
  simp only [World.setCell, Array.getElem?_modify, h.blk]; simp
theorem Rdr.slice (h : Rdr w r bs n k v ns) : ∃ ao cap, v = .slice ao ns.length cap := by
  obtain ⟨ao, cap, rfl⟩ := owns_slice h.row
  exact ⟨ao, cap, rfl⟩
end
theorem below_low {b : Nat} {w w' : World} (h : Below w.heap.size w w') (hb : b ≤ w.heap.size) : Below b w w' := h.mono hb

section
variable {w : World} {r n k : Nat} {bs : List UInt8} {v : Value} {ns : List Nd}
theorem Rdr.drew2 (h : Rdr w r bs n k v ns) : Rdr w.drew.drew r bs n k v ns := ⟨h.blk, owns_kept h.row fun _ _ => rfl⟩
theorem Rdr.drew1 (h : Rdr w r bs n k v ns) : Rdr w.drew r bs n k v ns := ⟨h.blk, owns_kept h.row fun _ _ => rfl⟩
theorem Rdr.step (h : Rdr w r bs n k v ns) : Rdr (w.setCell ⟨r, 1, none⟩ (.int .i64 ((k : Int) + 1))) r bs n (k + 1) v ns := h.move (k + 1)
theorem low_step (w : World) (r : Nat) (x : Value) : Below r w (w.setCell ⟨r, 1, none⟩ x) := Below.setCell (p := ⟨r, 1, none⟩) (Below.refl r w) (Nat.le_refl r) x
end

set_option maxRecDepth 100000 in
set_option maxHeartbeats 1000000 in
theorem digit_yes (r n k d : Nat) (bs : List UInt8) (v : Value) (ns : List Nd) (w : World) (h : Rdr w r bs n k v ns) (hl : bs.length ≤ 2000) (hd : bs[k]? = some (dgt d)) (h10 : d < 10) :
    Calls Tryz.prog 132 #[.pointer (some ⟨r, 0, none⟩)] w fun e w' => e = .returned (.int .i64 (d : Nat)) ∧ Rdr w' r bs n (k + 1) v ns ∧ Below r w w' := by
  obtain ⟨hk, he⟩ := List.getElem?_eq_some_iff.1 hd
  have hsz : (ByteArray.mk bs.toArray).size = bs.length := txt_size bs
  have hbx : (ByteArray.mk bs.toArray)[k]'(by rw [hsz]; exact hk) = dgt d := by rw [← he]; simp [ByteArray.getElem_eq_getElem_data]
  have hdn := Cho.dgt_toNat h10
  have c0 : w.cell? ⟨r, 0, none⟩ = some (.string ⟨bs.toArray⟩) := cell_of_block h.blk 0
  have c1 : w.cell? ⟨r, 1, none⟩ = some (.int .i64 (k : Nat)) := cell_of_block h.blk 1
  have f1 := frozen_of_block h.blk 1
  have hlt := h.lt
  have H : Hid (Rdr w r bs n k v ns) := h
  clear h hd he
  generalize dgt d = D at *
  go_enter Tryz.func132, Tryz.ntmps132
  go_wp2_with fail
  go_region_held3 (fun w' => w'.cell? ⟨r, 0, none⟩ = some (.string ⟨bs.toArray⟩) ∧ w'.cell? ⟨r, 1, none⟩ = some (.int .i64 (k : Nat))) (first | exact ⟨c0, c1⟩ | go_keep) (fail)
  all_goals
    go_wp2_with fail
    go_region_held3 (fun w' => w'.cell? ⟨r, 0, none⟩ = some (.string ⟨bs.toArray⟩) ∧ w'.cell? ⟨r, 1, none⟩ = some (.int .i64 (k : Nat))) (first | exact ⟨c0, c1⟩ | go_keep) (fail)
  all_goals
    go_wp2_with fail
    go_ret
    exact ⟨ret_int (by omega), H.out.step.drew2, (low_step _ _ _).drew.drew⟩

set_option maxRecDepth 100000 in
set_option maxHeartbeats 1000000 in
theorem digit_no (r n k : Nat) (bs : List UInt8) (v : Value) (ns : List Nd) (w : World) (h : Rdr w r bs n k v ns) (hd : ∀ c, bs[k]? = some c → isD c = false) :
    Calls Tryz.prog 132 #[.pointer (some ⟨r, 0, none⟩)] w fun e w' => e = .returned (.int .i64 (-1)) ∧ Rdr w' r bs n k v ns ∧ Below r w w' := by
  have hsz : (ByteArray.mk bs.toArray).size = bs.length := txt_size bs
  have c0 : w.cell? ⟨r, 0, none⟩ = some (.string ⟨bs.toArray⟩) := cell_of_block h.blk 0
  have c1 : w.cell? ⟨r, 1, none⟩ = some (.int .i64 (k : Nat)) := cell_of_block h.blk 1
  have hlt := h.lt
  have H : Hid (Rdr w r bs n k v ns) := h
  clear h
  by_cases hk : k < bs.length
  · have hbx : (ByteArray.mk bs.toArray)[k]'(by rw [hsz]; exact hk) = bs[k] := by simp [ByteArray.getElem_eq_getElem_data]
    have hno := hd bs[k] (List.getElem?_eq_getElem hk)
    generalize bs[k] = D at *
    have hdn : D.toNat < 48 ∨ 57 < D.toNat := by simp [isD] at hno; omega
    have hD := UInt8.toNat_lt D
    clear hd hno
    generalize hq : D.toNat = q at *
    rcases hdn with h1 | h1
    · go_enter Tryz.func132, Tryz.ntmps132
      go_wp2_with fail
      go_region_held3 (fun w' => w'.cell? ⟨r, 0, none⟩ = some (.string ⟨bs.toArray⟩) ∧ w'.cell? ⟨r, 1, none⟩ = some (.int .i64 (k : Nat))) (first | exact ⟨c0, c1⟩ | go_keep) (fail)
      all_goals
        go_wp2_with fail
        go_region_held3 (fun w' => w'.cell? ⟨r, 0, none⟩ = some (.string ⟨bs.toArray⟩) ∧ w'.cell? ⟨r, 1, none⟩ = some (.int .i64 (k : Nat))) (first | exact ⟨c0, c1⟩ | go_keep) (fail)
      all_goals
        go_wp2_with fail
        go_ret
        exact ⟨rfl, H.out.drew2, (Below.refl _ _).drew.drew⟩
    · have h2 : ¬ q < 48 := by omega
      go_enter Tryz.func132, Tryz.ntmps132
      go_wp2_with fail
      go_region_held3 (fun w' => w'.cell? ⟨r, 0, none⟩ = some (.string ⟨bs.toArray⟩) ∧ w'.cell? ⟨r, 1, none⟩ = some (.int .i64 (k : Nat))) (first | exact ⟨c0, c1⟩ | go_keep) (fail)
      all_goals
        go_wp2_with fail
        go_region_held3 (fun w' => w'.cell? ⟨r, 0, none⟩ = some (.string ⟨bs.toArray⟩) ∧ w'.cell? ⟨r, 1, none⟩ = some (.int .i64 (k : Nat))) (first | exact ⟨c0, c1⟩ | go_keep) (fail)
      all_goals
        go_wp2_with fail
        go_ret
        exact ⟨rfl, H.out.drew2, (Below.refl _ _).drew.drew⟩
  · clear hd
    have hk2 : bs.length ≤ k := by omega
    go_enter Tryz.func132, Tryz.ntmps132
    go_wp2_with fail
    go_region_held3 (fun w' => w'.cell? ⟨r, 0, none⟩ = some (.string ⟨bs.toArray⟩) ∧ w'.cell? ⟨r, 1, none⟩ = some (.int .i64 (k : Nat))) (first | exact ⟨c0, c1⟩ | go_keep) (fail)
    all_goals
      go_wp2_with fail
      go_ret
      exact ⟨rfl, H.out.drew1, (Below.refl _ _).drew⟩

set_option maxRecDepth 100000 in
set_option maxHeartbeats 1000000 in
theorem sign_yes (r n k : Nat) (c : UInt8) (bs : List UInt8) (v : Value) (ns : List Nd) (w : World) (h : Rdr w r bs n k v ns) (hl : bs.length ≤ 2000) (hd : bs[k]? = some c) :
    Calls Tryz.prog 134 #[.pointer (some ⟨r, 0, none⟩), .int .u8 (c.toNat : Nat)] w fun e w' => e = .returned (.bool true) ∧ Rdr w' r bs n (k + 1) v ns ∧ Below r w w' := by
  obtain ⟨hk, he⟩ := List.getElem?_eq_some_iff.1 hd
  have hsz : (ByteArray.mk bs.toArray).size = bs.length := txt_size bs
  have hbx : (ByteArray.mk bs.toArray)[k]'(by rw [hsz]; exact hk) = c := by rw [← he]; simp [ByteArray.getElem_eq_getElem_data]
  have c0 : w.cell? ⟨r, 0, none⟩ = some (.string ⟨bs.toArray⟩) := cell_of_block h.blk 0
  have c1 : w.cell? ⟨r, 1, none⟩ = some (.int .i64 (k : Nat)) := cell_of_block h.blk 1
  have f1 := frozen_of_block h.blk 1
  have hlt := h.lt
  have H : Hid (Rdr w r bs n k v ns) := h
  clear h hd he
  have hg : decide (bs.length ≤ k) = false := by simp; omega
  go_enter Tryz.func134, Tryz.ntmps134
  go_wp2_with fail
  go_region_held3 (fun w' => w'.cell? ⟨r, 0, none⟩ = some (.string ⟨bs.toArray⟩) ∧ w'.cell? ⟨r, 1, none⟩ = some (.int .i64 (k : Nat))) (first | exact ⟨c0, c1⟩ | go_keep) (fail)
  all_goals
    go_wp2_with fail
    go_ret
    exact ⟨rfl, H.out.step.drew1, (low_step _ _ _).drew⟩

set_option maxRecDepth 100000 in
set_option maxHeartbeats 1000000 in
theorem sign_no (r n k : Nat) (c : UInt8) (bs : List UInt8) (v : Value) (ns : List Nd) (w : World) (h : Rdr w r bs n k v ns) (hd : bs[k]? ≠ some c) :
    Calls Tryz.prog 134 #[.pointer (some ⟨r, 0, none⟩), .int .u8 (c.toNat : Nat)] w fun e w' => e = .returned (.bool false) ∧ Rdr w' r bs n k v ns ∧ Below r w w' := by
  have hsz : (ByteArray.mk bs.toArray).size = bs.length := txt_size bs
  have c0 : w.cell? ⟨r, 0, none⟩ = some (.string ⟨bs.toArray⟩) := cell_of_block h.blk 0
  have c1 : w.cell? ⟨r, 1, none⟩ = some (.int .i64 (k : Nat)) := cell_of_block h.blk 1
  have hlt := h.lt
  have H : Hid (Rdr w r bs n k v ns) := h
  clear h
  by_cases hk : k < bs.length
  · have hbx : (ByteArray.mk bs.toArray)[k]'(by rw [hsz]; exact hk) = bs[k] := by simp [ByteArray.getElem_eq_getElem_data]
    have hne : (((bs[k]).toNat : Int) != (c.toNat : Int)) = true := by
      simp
      intro e
      exact hd (by rw [List.getElem?_eq_getElem hk, UInt8.toNat_inj.1 (by omega : bs[k].toNat = c.toNat)])
    clear hd
    generalize bs[k] = D at *
    have hg : decide (bs.length ≤ k) = false := by simp; omega
    go_enter Tryz.func134, Tryz.ntmps134
    go_wp2_with fail
    go_region_held3 (fun w' => w'.cell? ⟨r, 0, none⟩ = some (.string ⟨bs.toArray⟩) ∧ w'.cell? ⟨r, 1, none⟩ = some (.int .i64 (k : Nat))) (first | exact ⟨c0, c1⟩ | go_keep) (fail)
    all_goals
      go_wp2_with fail
      go_ret
      exact ⟨rfl, H.out.drew1, (Below.refl _ _).drew⟩
  · clear hd
    have hg : decide (bs.length ≤ k) = true := by simp; omega
    go_enter Tryz.func134, Tryz.ntmps134
    go_wp2_with fail
    refine wp_region_noPanic ?_
    refine wp_region_held_drew (S := fun w' => w'.cell? ⟨r, 0, none⟩ = some (.string ⟨bs.toArray⟩) ∧ w'.cell? ⟨r, 1, none⟩ = some (.int .i64 (k : Nat))) (by kernel_rfl) ⟨c0, c1⟩ (fun hHeld => ?_)
    refine wpAnyH_take (i := 0) (v := ?_) rfl (by kernel_rfl) (by kernel_rfl) (by kernel_rfl) (fun _ _ _ h => h) (Or.inl ⟨by rfl, ?_⟩) (by assumption) ?_
    rotate_left
    focus (intro w hSw; (try dsimp only at hSw); go_simp; try with_reducible rfl)
    try simp only [Act.put, List.getElem_toArray, List.getElem_cons_zero, List.setIfInBounds_toArray, List.set_cons_zero, List.set_cons_succ]
    refine wpAnyH_take (i := 1) (v := ?_) rfl (by kernel_rfl) (by kernel_rfl) (by kernel_rfl) (fun _ _ _ h => h) (Or.inl ⟨by rfl, ?_⟩) (by assumption) ?_
    rotate_left
    focus (intro w hSw; (try dsimp only at hSw); go_simp; try with_reducible rfl)
    try simp only [Act.put, List.getElem_toArray, List.getElem_cons_zero, List.getElem_cons_succ, List.setIfInBounds_toArray, List.set_cons_zero, List.set_cons_succ]
    refine wpAnyH_take (i := 2) (v := ?_) rfl (by kernel_rfl) (by kernel_rfl) (by kernel_rfl) (fun _ _ _ h => h) (Or.inl ⟨by rfl, ?_⟩) (by assumption) ?_
    rotate_left
    focus (intro w hSw; (try dsimp only at hSw); go_simp; try with_reducible rfl)
    try simp only [Act.put, List.getElem_toArray, List.getElem_cons_zero, List.getElem_cons_succ, List.setIfInBounds_toArray, List.set_cons_zero, List.set_cons_succ]
    refine wpAnyH_take (i := 3) (v := ?_) rfl (by kernel_rfl) (by kernel_rfl) (by kernel_rfl) (fun _ _ _ h => h) (Or.inl ⟨by rfl, ?_⟩) (by assumption) ?_
    rotate_left
    focus (intro w hSw; (try dsimp only at hSw); go_simp; try with_reducible rfl)
    try simp only [Act.put, List.getElem_toArray, List.getElem_cons_zero, List.getElem_cons_succ, List.setIfInBounds_toArray, List.set_cons_zero, List.set_cons_succ]
    refine wpAnyH_take (i := 4) (v := ?_) rfl (by kernel_rfl) (by kernel_rfl) (by kernel_rfl) (fun _ _ _ h => h) (Or.inl ⟨by rfl, ?_⟩) (by assumption) ?_
    rotate_left
    focus (intro w hSw; (try dsimp only at hSw); go_simp; try with_reducible rfl)
    try simp only [Act.put, List.getElem_toArray, List.getElem_cons_zero, List.getElem_cons_succ, List.setIfInBounds_toArray, List.set_cons_zero, List.set_cons_succ]
    refine wpAnyH_take (i := 5) (v := ?_) rfl (by kernel_rfl) (by kernel_rfl) (by kernel_rfl) (fun _ _ _ h => h) (Or.inl ⟨by rfl, ?_⟩) (by assumption) ?_
    rotate_left
    focus (intro w hSw; (try dsimp only at hSw); go_simp; try with_reducible rfl)
    try simp only [Act.put, List.getElem_toArray, List.getElem_cons_zero, List.getElem_cons_succ, List.setIfInBounds_toArray, List.set_cons_zero, List.set_cons_succ]
    refine wpAnyH_take (i := 6) (v := ?_) rfl (by kernel_rfl) (by kernel_rfl) (by kernel_rfl) (fun _ _ _ h => h) (Or.inl ⟨by rfl, ?_⟩) (by assumption) ?_
    rotate_left
    focus (intro w hSw; (try dsimp only at hSw); go_simp; try with_reducible rfl)
    try simp only [Act.put, List.getElem_toArray, List.getElem_cons_zero, List.getElem_cons_succ, List.setIfInBounds_toArray, List.set_cons_zero, List.set_cons_succ]
    refine wpAnyH_take (i := 7) (v := ?_) rfl (by kernel_rfl) (by kernel_rfl) (by kernel_rfl) (fun _ _ _ h => h) (Or.inl ⟨by rfl, ?_⟩) (by assumption) ?_
    rotate_left
    focus (intro w hSw; (try dsimp only at hSw); go_simp; try with_reducible rfl)
    try simp only [Act.put, List.getElem_toArray, List.getElem_cons_zero, List.getElem_cons_succ, List.setIfInBounds_toArray, List.set_cons_zero, List.set_cons_succ]
    refine wpAnyH_take (i := 8) (v := ?_) rfl (by kernel_rfl) (by kernel_rfl) (by kernel_rfl) (fun _ _ _ h => h) (Or.inl ⟨by rfl, ?_⟩) (by assumption) ?_
    rotate_left
    focus (intro w hSw; (try dsimp only at hSw); go_simp; try with_reducible rfl)
    try simp only [Act.put, List.getElem_toArray, List.getElem_cons_zero, List.getElem_cons_succ, List.setIfInBounds_toArray, List.set_cons_zero, List.set_cons_succ]
    refine wpAnyH_take (i := 9) (v := ?_) rfl (by kernel_rfl) (by kernel_rfl) (by kernel_rfl) (fun _ _ _ h => h) (Or.inl ⟨by rfl, ?_⟩) (by assumption) ?_
    rotate_left
    focus (intro w hSw; (try dsimp only at hSw); go_simp; try with_reducible rfl)
    try simp only [Act.put, List.getElem_toArray, List.getElem_cons_zero, List.getElem_cons_succ, List.setIfInBounds_toArray, List.set_cons_zero, List.set_cons_succ]
    refine wpAnyH_take (i := 10) (v := ?_) rfl (by kernel_rfl) (by kernel_rfl) (by kernel_rfl) (fun _ _ _ h => h) (Or.inl ⟨by rfl, ?_⟩) (by assumption) ?_
    rotate_left
    focus (intro w hSw; (try dsimp only at hSw); go_simp; try with_reducible rfl)
    try simp only [Act.put, List.getElem_toArray, List.getElem_cons_zero, List.getElem_cons_succ, List.setIfInBounds_toArray, List.set_cons_zero, List.set_cons_succ]
    refine wpAnyH_take (i := 11) (v := undef) rfl (by kernel_rfl) (by kernel_rfl) (by kernel_rfl) (fun _ _ _ h => h) (Or.inr ⟨by rfl, rfl⟩) (by assumption) ?_
    try simp only [Act.put, List.getElem_toArray, List.getElem_cons_zero, List.getElem_cons_succ, List.setIfInBounds_toArray, List.set_cons_zero, List.set_cons_succ]
    refine wpAnyH_take (i := 12) (v := undef) rfl (by kernel_rfl) (by kernel_rfl) (by kernel_rfl) (fun _ _ _ h => h) (Or.inr ⟨by rfl, rfl⟩) (by assumption) ?_
    try simp only [Act.put, List.getElem_toArray, List.getElem_cons_zero, List.getElem_cons_succ, List.setIfInBounds_toArray, List.set_cons_zero, List.set_cons_succ]
    refine wpAnyH_take (i := 13) (v := undef) rfl (by kernel_rfl) (by kernel_rfl) (by kernel_rfl) (fun _ _ _ h => h) (Or.inr ⟨by rfl, rfl⟩) (by assumption) ?_
    try simp only [Act.put, List.getElem_toArray, List.getElem_cons_zero, List.getElem_cons_succ, List.setIfInBounds_toArray, List.set_cons_zero, List.set_cons_succ]
    refine wpAnyH_take (i := 14) (v := undef) rfl (by kernel_rfl) (by kernel_rfl) (by kernel_rfl) (fun _ _ _ h => h) (Or.inr ⟨by rfl, rfl⟩) (by assumption) ?_
    try simp only [Act.put, List.getElem_toArray, List.getElem_cons_zero, List.getElem_cons_succ, List.setIfInBounds_toArray, List.set_cons_zero, List.set_cons_succ]
    refine wpAnyH_take (i := 15) (v := undef) rfl (by kernel_rfl) (by kernel_rfl) (by kernel_rfl) (fun _ _ _ h => h) (Or.inr ⟨by rfl, rfl⟩) (by assumption) ?_
    try simp only [Act.put, List.getElem_toArray, List.getElem_cons_zero, List.getElem_cons_succ, List.setIfInBounds_toArray, List.set_cons_zero, List.set_cons_succ]
    refine wpAnyH_take (i := 16) (v := undef) rfl (by kernel_rfl) (by kernel_rfl) (by kernel_rfl) (fun _ _ _ h => h) (Or.inr ⟨by rfl, rfl⟩) (by assumption) ?_
    try simp only [Act.put, List.getElem_toArray, List.getElem_cons_zero, List.getElem_cons_succ, List.setIfInBounds_toArray, List.set_cons_zero, List.set_cons_succ]
    refine wpAnyH_take (i := 17) (v := undef) rfl (by kernel_rfl) (by kernel_rfl) (by kernel_rfl) (fun _ _ _ h => h) (Or.inr ⟨by rfl, rfl⟩) (by assumption) ?_
    try simp only [Act.put, List.getElem_toArray, List.getElem_cons_zero, List.getElem_cons_succ, List.setIfInBounds_toArray, List.set_cons_zero, List.set_cons_succ]
    refine wpAnyH_take (i := 18) (v := undef) rfl (by kernel_rfl) (by kernel_rfl) (by kernel_rfl) (fun _ _ _ h => h) (Or.inr ⟨by rfl, rfl⟩) (by assumption) ?_
    try simp only [Act.put, List.getElem_toArray, List.getElem_cons_zero, List.getElem_cons_succ, List.setIfInBounds_toArray, List.set_cons_zero, List.set_cons_succ]
    refine wpAnyH_take (i := 19) (v := undef) rfl (by kernel_rfl) (by kernel_rfl) (by kernel_rfl) (fun _ _ _ h => h) (Or.inr ⟨by rfl, rfl⟩) (by assumption) ?_
    try simp only [Act.put, List.getElem_toArray, List.getElem_cons_zero, List.getElem_cons_succ, List.setIfInBounds_toArray, List.set_cons_zero, List.set_cons_succ]
    refine wpAnyH_take (i := 20) (v := undef) rfl (by kernel_rfl) (by kernel_rfl) (by kernel_rfl) (fun _ _ _ h => h) (Or.inr ⟨by rfl, rfl⟩) (by assumption) ?_
    try simp only [Act.put, List.getElem_toArray, List.getElem_cons_zero, List.getElem_cons_succ, List.setIfInBounds_toArray, List.set_cons_zero, List.set_cons_succ]
    refine wpAnyH_take (i := 21) (v := undef) rfl (by kernel_rfl) (by kernel_rfl) (by kernel_rfl) (fun _ _ _ h => h) (Or.inr ⟨by rfl, rfl⟩) (by assumption) ?_
    try simp only [Act.put, List.getElem_toArray, List.getElem_cons_zero, List.getElem_cons_succ, List.setIfInBounds_toArray, List.set_cons_zero, List.set_cons_succ]
    refine wpAnyH_take (i := 22) (v := ?_) rfl (by kernel_rfl) (by kernel_rfl) (by kernel_rfl) (fun _ _ _ h => h) (Or.inl ⟨by rfl, ?_⟩) (by assumption) ?_
    rotate_left
    focus (intro w hSw; (try dsimp only at hSw); go_simp; try with_reducible rfl)
    try simp only [Act.put, List.getElem_toArray, List.getElem_cons_zero, List.getElem_cons_succ, List.setIfInBounds_toArray, List.set_cons_zero, List.set_cons_succ]
    refine wpAnyH_done (by kernel_rfl) ?_ _
    refine NoPanic.normal ?_
    all_goals
      go_wp2_with fail
      go_ret
      exact ⟨rfl, H.out.drew1, (Below.refl _ _).drew⟩
end Go.Proofs.YthoodkbdpnffdabGreatDoor
