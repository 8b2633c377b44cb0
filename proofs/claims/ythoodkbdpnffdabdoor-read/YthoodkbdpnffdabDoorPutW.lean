/-
  Own work: a link and an item at a place of a text (plain mathematics).
-/
import Derived.Test.YthoodkbdpnffdabDoorTxtA
import Derived.Test.YthoodkbdpnffdabDoorPlainV
import Derived.Test.YthoodkbdpnffdabDoorPlainL
import Derived.Test.YthoodkbdpnffdabDoorTabW
namespace Go.Proofs.YthoodkbdpnffdabDoor
open Cho (U64 Tab full col decL dgt Nd Red lnk tb itm rend Txt Says isD NumAt drop_at at_drop)

/-- Which link stands at a place, of an item that asks for variable v. -/
structure LinkAt (n : Nat) (bs : List UInt8) (ns : List Nd) (v k t : Nat) (ok : Bool) (k' : Nat) : Prop where
  yes : ok = true → ∃ l, l < ns.length + 2 ∧ v < vr n ns l ∧ t = tb n ns l ∧ bs.drop k = lnk l ++ bs.drop k' ∧ k' = k + (lnk l).length
  all : ∀ l c r, l < ns.length + 2 → v < vr n ns l → bs.drop k = lnk l ++ c :: r → isD c = false → ok = true ∧ k' = k + (lnk l).length
  le : k' ≤ bs.length
  tab : Tab n t
theorem head_of {bs : List UInt8} {k : Nat} {x : UInt8} {l r : List UInt8} (h : bs.drop k = (x :: l) ++ r) : bs[k]? = some x := by
  rw [← at_drop, h]; rfl
theorem lnk_two (j : Nat) : lnk (j + 2) = decL j := by simp [lnk]
theorem dec_head {bs : List UInt8} {k j : Nat} {r : List UInt8} (h : bs.drop k = decL j ++ r) : ∃ c, bs[k]? = some c ∧ isD c = true := by
  cases hq : decL j with
  | nil => exact absurd hq (Cho.decL_ne j)
  | cons x q => rw [hq] at h; exact ⟨x, head_of h, Cho.isD_dec j x (by rw [hq]; simp)⟩
theorem link_n {n v k : Nat} {bs : List UInt8} {ns : List Nd} (hv : v < n) (h : bs[k]? = some 110) : LinkAt n bs ns v k 0 true (k + 1) := by
  refine ⟨fun _ => ⟨0, by omega, hv, (Cho.tb_zero n ns).symm, by rw [drop_at h]; rfl, rfl⟩, fun l c r hl _ hd _ => ⟨rfl, ?_⟩, (List.getElem?_eq_some_iff.1 h).1, Nat.two_pow_pos _⟩
  by_cases l0 : l = 0
  · subst l0; rfl
  · by_cases l1 : l = 1
    · subst l1
      have := head_of (x := 121) (l := []) hd
      rw [h] at this; exact absurd this (by decide)
    · obtain ⟨j, rfl⟩ : ∃ j, l = j + 2 := ⟨l - 2, by omega⟩
      rw [lnk_two] at hd
      obtain ⟨x, h1, h2⟩ := dec_head hd
      rw [h] at h1; simp at h1; subst h1; exact absurd h2 (by decide)
theorem link_y {n v k : Nat} {bs : List UInt8} {ns : List Nd} (hv : v < n) (h : bs[k]? = some 121) : LinkAt n bs ns v k (full n) true (k + 1) := by
  refine ⟨fun _ => ⟨1, by omega, hv, (Cho.tb_one n ns).symm, by rw [drop_at h]; rfl, rfl⟩, fun l c r hl _ hd _ => ⟨rfl, ?_⟩, (List.getElem?_eq_some_iff.1 h).1, Cho.full_tab n⟩
  by_cases l0 : l = 0
  · subst l0
    have := head_of (x := 110) (l := []) hd
    rw [h] at this; exact absurd this (by decide)
  · by_cases l1 : l = 1
    · subst l1; rfl
    · obtain ⟨j, rfl⟩ : ∃ j, l = j + 2 := ⟨l - 2, by omega⟩
      rw [lnk_two] at hd
      obtain ⟨x, h1, h2⟩ := dec_head hd
      rw [h] at h1; simp at h1; subst h1; exact absurd h2 (by decide)
theorem link_num {k k' l : Nat} {x : Int} {c : UInt8} {bs r : List UInt8} {ns : List Nd} (h : NumAt bs ns.length k x k') (hn : bs[k]? ≠ some 110) (hy : bs[k]? ≠ some 121) (hl : l < ns.length + 2) (hd : bs.drop k = lnk l ++ c :: r) (hc : isD c = false) :
    ∃ j : Nat, l = j + 2 ∧ x = j := by
  by_cases l0 : l = 0
  · subst l0; exact absurd (head_of (x := 110) (l := []) hd) hn
  · by_cases l1 : l = 1
    · subst l1; exact absurd (head_of (x := 121) (l := []) hd) hy
    · obtain ⟨j, rfl⟩ : ∃ j, l = j + 2 := ⟨l - 2, by omega⟩
      rw [lnk_two] at hd
      exact ⟨j, rfl, h.all j c r (by omega) hd hc⟩
theorem link_bad {n v k k' : Nat} {x : Int} {bs : List UInt8} {ns : List Nd} (h : NumAt bs ns.length k x k') (hn : bs[k]? ≠ some 110) (hy : bs[k]? ≠ some 121) (hx : x < 0 ∨ (ns.length : Int) ≤ x) : LinkAt n bs ns v k 0 false k' := by
  refine ⟨fun h => absurd h (by decide), fun l c r hl _ hd hc => ?_, h.le, Nat.two_pow_pos _⟩
  obtain ⟨j, rfl, rfl⟩ := link_num h hn hy hl hd hc
  omega
theorem vr_two {n j : Nat} {ns : List Nd} (hj : j < ns.length) : vr n ns (j + 2) = ns[j].1 := by
  unfold vr
  rw [if_neg (by omega), show j + 2 - 2 = j from by omega]
  simp [List.getD, hj]
theorem link_low {n v k k' j : Nat} {bs : List UInt8} {ns : List Nd} (h : NumAt bs ns.length k (j : Nat) k') (hn : bs[k]? ≠ some 110) (hy : bs[k]? ≠ some 121) (hj : j < ns.length) (hv : ns[j].1 ≤ v) : LinkAt n bs ns v k 0 false k' := by
  refine ⟨fun h => absurd h (by decide), fun l c r hl hvr hd hc => ?_, h.le, Nat.two_pow_pos _⟩
  obtain ⟨i, rfl, e⟩ := link_num h hn hy hl hd hc
  obtain rfl : j = i := by omega
  rw [vr_two hj] at hvr
  omega
theorem link_good {n v k k' j : Nat} {bs : List UInt8} {ns : List Nd} (h : NumAt bs ns.length k (j : Nat) k') (hn : bs[k]? ≠ some 110) (hy : bs[k]? ≠ some 121) (hj : j < ns.length) (hv : v < ns[j].1) : LinkAt n bs ns v k (tb n ns (j + 2)) true k' := by
  obtain ⟨i, e, h1, h2⟩ := h.yes (by omega)
  obtain rfl : j = i := by omega
  refine ⟨fun _ => ⟨j + 2, by omega, by rw [vr_two hj]; exact hv, rfl, by rw [lnk_two]; exact h1, by rw [lnk_two]; exact h2⟩, fun l c r hl hvr hd hc => ⟨rfl, ?_⟩, h.le, Cho.tb_tab _ _ _⟩
  obtain ⟨i, rfl, e⟩ := link_num h hn hy hl hd hc
  obtain rfl : j = i := by omega
  rw [lnk_two]; exact h2

/-- A table chosen by a variable, place by place. -/
theorem choose_bld {n v t u : Nat} (hn : n ≤ 6) (hv : v < n) (ht : Tab n t) (hu : Tab n u) : Cho.chooseT (col v &&& full n) u t = Cho.bld (fun p => if p.testBit v then u.testBit p else t.testBit p) (2 ^ n) := by
  have h64 := Cho.two_pow_le n hn
  apply Tab.ext (Cho.chooseT_tab hu ht) (Cho.bld_tab _ _)
  intro p hp
  rw [Cho.chooseT_testBit _ _ _ _ (Cho.and_u64 (Cho.col_u64 v)) (by omega), Nat.testBit_and, Cho.full_testBit, Cho.col_testBit v (by omega) p (by omega), Cho.bld_testBit]
  simp [hp]

/-- Whether an item stands at a place. -/
structure ItemAt (n : Nat) (bs : List UInt8) (ns : List Nd) (k : Nat) (ok : Bool) (k' : Nat) (ms : List Nd) : Prop where
  yes : ok = true → ∃ x r, bs.drop k = itm x ++ r ∧ Txt n (ns ++ [x]) ∧ k' = k + (itm x).length ∧ ms = ns ++ [x]
  no : ok = false → ∀ x r, bs.drop k = itm x ++ r → ¬ Txt n (ns ++ [x])
theorem item_split {bs r : List UInt8} {k : Nat} {x : Nd} (h : bs.drop k = itm x ++ r) : bs[k]? = some (dgt x.1) ∧ bs.drop (k + 1) = lnk x.2.1 ++ 44 :: (lnk x.2.2 ++ 59 :: r) := by
  have h0 : bs[k]? = some (dgt x.1) := by rw [← at_drop, h]; rfl
  refine ⟨h0, ?_⟩
  have := drop_at h0
  rw [h] at this
  have e : itm x ++ r = dgt x.1 :: (lnk x.2.1 ++ 44 :: (lnk x.2.2 ++ 59 :: r)) := by simp [itm]
  rw [e] at this
  exact (List.cons.inj this).2.symm
theorem sign_at {bs a r : List UInt8} {k : Nat} {c : UInt8} (h : bs.drop k = a ++ c :: r) : bs[k + a.length]? = some c ∧ bs.drop (k + a.length + 1) = r := by
  have h1 : bs.drop (k + a.length) = c :: r := by rw [← List.drop_drop, h]; simp
  have h0 : bs[k + a.length]? = some c := by rw [← at_drop, h1]; rfl
  refine ⟨h0, ?_⟩
  have := drop_at h0
  rw [h1] at this
  exact (List.cons.inj this).2.symm
section
variable {n k v : Nat} {bs : List UInt8} {ns : List Nd}
theorem item_no0 {k' : Nat} (h : ∀ d, bs[k]? = some (dgt d) → ¬ d < n) : ItemAt n bs ns k false k' ns :=
  ⟨fun h => absurd h (by decide), fun _ x r hd hx => h x.1 (item_split hd).1 (snoc_txt hx).1⟩
theorem same_var (hn : n ≤ 6) (hv : v < n) (h : bs[k]? = some (dgt v)) {x : Nd} {r : List UInt8} (hd : bs.drop k = itm x ++ r) (hx : Txt n (ns ++ [x])) : x.1 = v := by
  have h1 := (item_split hd).1
  have := (snoc_txt hx).1
  rw [h] at h1
  exact (Cho.dgt_inj (by omega) (by omega) (Option.some.inj h1)).symm
theorem item_no1 {k1 k' t : Nat} (hn : n ≤ 6) (hv : v < n) (h : bs[k]? = some (dgt v)) (hl : LinkAt n bs ns v (k + 1) t false k1) : ItemAt n bs ns k false k' ns := by
  refine ⟨fun h => absurd h (by decide), fun _ x r hd hx => ?_⟩
  have e := same_var hn hv h hd hx
  obtain ⟨_, s1, s2, s3, s4⟩ := snoc_txt hx
  rw [e] at s3
  exact absurd (hl.all _ _ _ s1 s3 (item_split hd).2 (by decide)).1 (by decide)
theorem item_no2 {k1 k' t : Nat} (hn : n ≤ 6) (hv : v < n) (h : bs[k]? = some (dgt v)) (hl : LinkAt n bs ns v (k + 1) t true k1) (h1 : bs[k1]? ≠ some 44) : ItemAt n bs ns k false k' ns := by
  refine ⟨fun h => absurd h (by decide), fun _ x r hd hx => ?_⟩
  have e := same_var hn hv h hd hx
  obtain ⟨_, s1, s2, s3, s4⟩ := snoc_txt hx
  rw [e] at s3
  have hk := (hl.all _ _ _ s1 s3 (item_split hd).2 (by decide)).2
  exact h1 (by rw [hk]; exact (sign_at (item_split hd).2).1)
theorem item_no3 {k1 k2 k' t u : Nat} (hn : n ≤ 6) (hv : v < n) (h : bs[k]? = some (dgt v)) (hl : LinkAt n bs ns v (k + 1) t true k1) (hl2 : LinkAt n bs ns v (k1 + 1) u false k2) : ItemAt n bs ns k false k' ns := by
  refine ⟨fun h => absurd h (by decide), fun _ x r hd hx => ?_⟩
  have e := same_var hn hv h hd hx
  obtain ⟨_, s1, s2, s3, s4⟩ := snoc_txt hx
  rw [e] at s3 s4
  have hk := (hl.all _ _ _ s1 s3 (item_split hd).2 (by decide)).2
  have h2 := (sign_at (item_split hd).2).2
  rw [← hk] at h2
  exact absurd (hl2.all _ _ _ s2 s4 h2 (by decide)).1 (by decide)
theorem item_no4 {k1 k2 k' t u : Nat} (hn : n ≤ 6) (hv : v < n) (h : bs[k]? = some (dgt v)) (hl : LinkAt n bs ns v (k + 1) t true k1) (hl2 : LinkAt n bs ns v (k1 + 1) u true k2) (h2 : bs[k2]? ≠ some 59) : ItemAt n bs ns k false k' ns := by
  refine ⟨fun h => absurd h (by decide), fun _ x r hd hx => ?_⟩
  have e := same_var hn hv h hd hx
  obtain ⟨_, s1, s2, s3, s4⟩ := snoc_txt hx
  rw [e] at s3 s4
  have hk := (hl.all _ _ _ s1 s3 (item_split hd).2 (by decide)).2
  have h3 := (sign_at (item_split hd).2).2
  rw [← hk] at h3
  have hk2 := (hl2.all _ _ _ s2 s4 h3 (by decide)).2
  exact h2 (by rw [hk2]; exact (sign_at h3).1)
/-- An item was read: what it is, and its table. -/
theorem item_yes {k1 k2 t u : Nat} (hx : Txt n ns) (hv : v < n) (h : bs[k]? = some (dgt v)) (hl : LinkAt n bs ns v (k + 1) t true k1) (h1 : bs[k1]? = some 44) (hl2 : LinkAt n bs ns v (k1 + 1) u true k2) (h2 : bs[k2]? = some 59) :
    ∃ l0 l1, ItemAt n bs ns k true (k2 + 1) (ns ++ [(v, l0, l1)]) ∧ tb n (ns ++ [(v, l0, l1)]) (ns.length + 2) = Cho.bld (fun p => if p.testBit v then u.testBit p else t.testBit p) (2 ^ n) := by
  obtain ⟨l0, a1, a2, a3, a4, a5⟩ := hl.yes rfl
  obtain ⟨l1, b1, b2, b3, b4, b5⟩ := hl2.yes rfl
  have htx := txt_snoc hx hv a1 b1 a2 b2
  have hd : bs.drop k = itm (v, l0, l1) ++ bs.drop (k2 + 1) := by
    rw [drop_at h, a4, drop_at h1, b4, drop_at h2]; simp [itm]
  refine ⟨l0, l1, ⟨fun _ => ⟨_, _, hd, htx, ?_, rfl⟩, fun h => absurd h (by decide)⟩, ?_⟩
  · simp [itm]; omega
  · rw [tb_snoc htx, ← a3, ← b3]
end
end Go.Proofs.YthoodkbdpnffdabDoor

/-
  Own work: what Choose, Put, All and Some of package tables compute (walks).
-/
namespace Go.Proofs.YthoodkbdpnffdabDoor
open Go.RowKit
open Cho (U64 Tab full col)

set_option maxHeartbeats 400000 in
theorem choose_calls (a b c : Nat) (w : World) (ha : U64 a) (hb : U64 b) (hc : U64 c) :
    Calls Tryd.prog 35 #[.int .u64 a, .int .u64 b, .int .u64 c] w fun e w' => e = .returned (.int .u64 (Cho.chooseT a b c : Nat)) ∧ w' = w := by
  have e1 : Hid (bits .and .u64 (a : Int) (b : Int) = ((a &&& b : Nat) : Int)) := and64 ha hb
  have e2 : Hid (bits .andNot .u64 (c : Int) (a : Int) = ((c &&& (2 ^ 64 - 1 - a) : Nat) : Int)) := andNot64 hc ha
  go_enter Tryd.func35, Tryd.ntmps35
  go_wp2
  go_ret
  exact ⟨ret_int (by rw [e1.out, e2.out, or64 (Cho.and_u64 ha) (Cho.and_u64 hc)]; rfl), rfl⟩

theorem u8bit (x k : Nat) (hx : x < 256) : bits .and .u8 ((x : Int) / 2 ^ k) 1 = if x.testBit k then 1 else 0 := by
  have e : (x : Int) / 2 ^ k = ((x >>> k : Nat) : Int) := by rw [Nat.shiftRight_eq_div_pow]; simp
  have h : x >>> k < 256 := Nat.lt_of_le_of_lt (Nat.shiftRight_le _ _) hx
  rw [e, show (1 : Int) = ((1 : Nat) : Int) from rfl, u8_and_nat _ 1 h (by decide), Cho.testBit0_and, Cho.shr_testBit0]
  split <;> rfl

end Go.Proofs.YthoodkbdpnffdabDoor
