/-
  Own work: numbers at a place of a text (plain mathematics).
-/
import Derived.Test.YthoodkbdpnffdabDoorPlainU
namespace Cho

/-- The sign is a digit. -/
def isD (c : UInt8) : Bool := decide (48 ≤ c.toNat) && decide (c.toNat ≤ 57)
theorem isD_dgt {d : Nat} (h : d < 10) : isD (dgt d) = true := by
  unfold isD
  rw [dgt_toNat h]
  simp; omega
theorem isD_of {c : UInt8} (h : isD c = true) : ∃ d, d < 10 ∧ c = dgt d ∧ c.toNat = 48 + d := by
  simp [isD] at h
  refine ⟨c.toNat - 48, by omega, ?_, by omega⟩
  apply UInt8.toNat_inj.1
  rw [dgt_toNat (by omega)]; omega
theorem isD_dec (n : Nat) : ∀ c ∈ decL n, isD c = true := fun c hc => by
  have := decL_digit n c hc
  simp [isD]; omega
theorem decL_ten {k d : Nat} (hk : 0 < k) (hd : d < 10) : decL (k * 10 + d) = decL k ++ [dgt d] := by
  rw [decL_big (by omega), show (k * 10 + d) / 10 = k from by omega, show (k * 10 + d) % 10 = d from by omega]
theorem decL_front : ∀ b a : Nat, decL a <+: decL b → a ≤ b := by
  intro b
  induction b using Nat.strongRecOn with
  | ind b ih =>
    intro a h
    by_cases hb : b < 10
    · rw [decL_small hb] at h
      have hl := h.length_le
      have hp := decL_pos a
      have : decL a = [dgt b] := h.eq_of_length (by simp at hl ⊢; omega)
      rw [← decL_small hb] at this
      exact Nat.le_of_eq (decL_inj _ _ this)
    · rw [decL_big hb, List.prefix_concat_iff] at h
      rcases h with h | h
      · rw [← decL_big hb] at h
        exact Nat.le_of_eq (decL_inj _ _ h)
      · have := ih (b / 10) (by omega) a h
        omega
theorem dec_tw (a : Nat) (s : List UInt8) : (decL a ++ s).takeWhile isD = decL a ++ s.takeWhile isD := List.takeWhile_append_of_pos (isD_dec a)
theorem dec_over {a b : Nat} {s r : List UInt8} {c : UInt8} (h : decL a ++ s = decL b ++ c :: r) (hc : isD c = false) : a ≤ b := by
  have := congrArg (List.takeWhile isD) h
  rw [dec_tw, dec_tw] at this
  simp [hc] at this
  exact decL_front b a ⟨_, this⟩
theorem dec_cut {a b : Nat} {s r : List UInt8} {c : UInt8} (h : decL a ++ s = decL b ++ c :: r) (hc : isD c = false) (hs : ∀ x, s[0]? = some x → isD x = false) : a = b := by
  have := congrArg (List.takeWhile isD) h
  rw [dec_tw, dec_tw] at this
  have e : s.takeWhile isD = [] := by
    cases s with
    | nil => rfl
    | cons x s => have := hs x rfl; simp [this]
  simp [hc, e] at this
  exact decL_inj _ _ this
/-- Which number stands at a place. -/
structure NumAt (bs : List UInt8) (m k : Nat) (x : Int) (k' : Nat) : Prop where
  yes : 0 ≤ x → ∃ j : Nat, x = j ∧ bs.drop k = decL j ++ bs.drop k' ∧ k' = k + (decL j).length
  all : ∀ j c r, j < m → bs.drop k = decL j ++ c :: r → isD c = false → x = j
  le : k' ≤ bs.length
theorem drop_at {bs : List UInt8} {k : Nat} {c : UInt8} (h : bs[k]? = some c) : bs.drop k = c :: bs.drop (k + 1) := by
  obtain ⟨hk, rfl⟩ := List.getElem?_eq_some_iff.1 h
  exact List.drop_eq_getElem_cons hk
theorem at_drop (bs : List UInt8) (k : Nat) : (bs.drop k)[0]? = bs[k]? := by simp
theorem num_none {bs : List UInt8} {m k : Nat} (h : ∀ c, bs[k]? = some c → isD c = false) (hk : k ≤ bs.length) : NumAt bs m k (-1) k := by
  refine ⟨fun h => absurd h (by decide), fun j c r _ hd _ => ?_, hk⟩
  have h0 := at_drop bs k
  rw [hd] at h0
  cases hj : decL j with
  | nil => exact absurd hj (decL_ne j)
  | cons x l =>
    rw [hj] at h0
    have h1 := isD_dec j x (by rw [hj]; simp)
    have h2 := h x (by rw [← h0]; rfl)
    rw [h1] at h2; cases h2
theorem num_zero {bs : List UInt8} {m k : Nat} (h : bs[k]? = some (dgt 0)) : NumAt bs m k 0 (k + 1) := by
  have hk := (List.getElem?_eq_some_iff.1 h).1
  have e : decL 0 = [dgt 0] := decL_small (by decide)
  refine ⟨fun _ => ⟨0, rfl, by rw [e, drop_at h]; rfl, by rw [e]; rfl⟩, fun j c r _ hd _ => ?_, hk⟩
  have hx : dgt 0 :: bs.drop (k + 1) = decL j ++ c :: r := by rw [← hd, drop_at h]
  by_cases hj : j < 10
  · rw [decL_small hj] at hx
    have := dgt_inj (by decide) hj (List.cons.inj hx).1
    omega
  · exfalso
    have hh : ∀ i, 0 < i → ∀ l, decL i = dgt 0 :: l → False := by
      intro i
      induction i using Nat.strongRecOn with
      | ind i ih =>
        intro hi l hl
        by_cases h10 : i < 10
        · rw [decL_small h10] at hl
          have := dgt_inj h10 (by decide) (List.cons.inj hl).1
          omega
        · rw [decL_big h10] at hl
          cases hq : decL (i / 10) with
          | nil => exact absurd hq (decL_ne _)
          | cons x q =>
            rw [hq] at hl
            have e2 := (List.cons.inj hl).1
            exact ih (i / 10) (by omega) (by omega) q (by rw [hq, e2])
    cases hq : decL j with
    | nil => exact absurd hq (decL_ne _)
    | cons x q =>
      rw [hq] at hx
      exact hh j (by omega) q (by rw [hq, (List.cons.inj hx).1])
/-- While a number is read. -/
structure Reading (bs : List UInt8) (k j k' : Nat) : Prop where
  pos : 0 < j
  eq : bs.drop k = decL j ++ bs.drop k'
  at' : k' = k + (decL j).length
  le : k' ≤ bs.length
theorem reading0 {bs : List UInt8} {k d : Nat} (h : bs[k]? = some (dgt d)) (hd : 0 < d) (h10 : d < 10) : Reading bs k d (k + 1) :=
  ⟨hd, by rw [decL_small h10, drop_at h]; rfl, by rw [decL_small h10]; rfl, (List.getElem?_eq_some_iff.1 h).1⟩
theorem Reading.step {bs : List UInt8} {k j k' d : Nat} (h : Reading bs k j k') (hd : d < 10) (e : bs[k']? = some (dgt d)) : Reading bs k (j * 10 + d) (k' + 1) := by
  refine ⟨by have := h.pos; omega, ?_, ?_, (List.getElem?_eq_some_iff.1 e).1⟩
  · rw [decL_ten h.pos hd, h.eq, drop_at e]; simp
  · rw [decL_ten h.pos hd, h.at']; simp; omega
theorem Reading.over {bs : List UInt8} {m k j k' : Nat} (h : Reading bs k j k') (hm : m ≤ j) : NumAt bs m k (-1) k' := by
  refine ⟨fun h => absurd h (by decide), fun i c r hi hd hc => ?_, h.le⟩
  have := dec_over (h.eq.symm.trans hd) hc
  omega
theorem Reading.done {bs : List UInt8} {m k j k' : Nat} (h : Reading bs k j k') (e : ∀ c, bs[k']? = some c → isD c = false) : NumAt bs m k j k' := by
  refine ⟨fun _ => ⟨j, rfl, h.eq, h.at'⟩, fun i c r hi hd hc => ?_, h.le⟩
  have := dec_cut (h.eq.symm.trans hd) hc (fun x hx => e x (by rw [← at_drop]; exact hx))
  omega
end Cho
