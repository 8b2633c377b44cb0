/-
  Own work: whether two lists of numbers are the same (a walk).
-/
import Derived.Test.YthoodkbdpnffdaaDoorTabW
namespace Go.Proofs.YthoodkbdpnffdaaDoor
open Go.RowKit

/-- A row of numbers that one can read, wherever it begins. -/
def RowA (w : World) (v : Value) (l : List Nat) : Prop := ∃ ao cap, v = .slice ao l.length cap ∧ l.length ≤ 1000 ∧ ∀ i (hi : i < l.length), ∃ g, ao = some ⟨g, 0, none⟩ ∧ w.cell? ⟨g, i, none⟩ = some (.int .i64 (l[i] : Nat))

set_option maxHeartbeats 400000 in
theorem ksame_calls (u v : Value) (a b : List Nat) (w : World) (ha : RowA w u a) (hb : RowA w v b) :
    Calls Tryd.prog 35 #[u, v] w fun e w' => e = .returned (.bool (decide (a = b))) ∧ ∃ q, w' = w.drewN q := by
  obtain ⟨ao, cap, rfl, la, hc⟩ := ha
  obtain ⟨bo, cap2, rfl, lb, hd⟩ := hb
  have HC : Hid (∀ i (hi : i < a.length), ∃ g, ao = some ⟨g, 0, none⟩ ∧ w.cell? ⟨g, i, none⟩ = some (.int .i64 (a[i] : Nat))) := hc
  have HD : Hid (∀ i (hi : i < b.length), ∃ g, bo = some ⟨g, 0, none⟩ ∧ w.cell? ⟨g, i, none⟩ = some (.int .i64 (b[i] : Nat))) := hd
  clear hc hd
  by_cases hl : a.length = b.length
  · have hbl : ((a.length : Int) != (b.length : Int)) = false := by simp [hl]
    have HL : Hid (a.length = b.length) := hl
    clear hl
    go_enter Tryd.func35, Tryd.ntmps35
    go_wp2_with fail
    go_loopw [5] (fun x5 wr => ∃ i q : Nat, i ≤ a.length ∧ x5 = .int .i64 i ∧ wr = w.drewN q ∧ Hid (∀ j (h1 : j < a.length) (h2 : j < b.length), j < i → a[j] = b[j])) (fun x5 _ => a.length - (intOf x5).toNat)
    case atStart => exact ⟨0, 0, Nat.zero_le _, rfl, (World.drewN_zero w).symm, fun j _ _ h => absurd h (Nat.not_lt_zero _)⟩
    case round =>
      obtain ⟨i, q0, hi, rfl, hq, HN⟩ := hrel
      have HQ : Hid (wr = w.drewN q0) := hq
      have CW : Hid (∀ A v, w.cell? A = some v → wr.cell? A = some v) := fun A v h => by rw [hq]; exact h
      clear hq
      by_cases hlt : i < a.length
      · have hlt2 : i < b.length := by have := HL.out; omega
        obtain ⟨g, rfl, h1'⟩ := HC.out i hlt
        obtain ⟨g2, rfl, h2'⟩ := HD.out i hlt2
        have h1 := CW.out _ _ h1'
        have h2 := CW.out _ _ h2'
        clear h1' h2'
        by_cases he : a[i] = b[i]
        · have HN' : Hid (∀ j (h1 : j < a.length) (h2 : j < b.length), j < i + 1 → a[j] = b[j]) := by
            intro j j1 j2 hj
            by_cases e : j = i
            · subst e; exact he
            · exact HN.out j j1 j2 (by omega)
          have hne : (((a[i] : Nat) : Int) != ((b[i] : Nat) : Int)) = false := by simp [he]
          generalize a[i] = p at *
          generalize b[i] = q at *
          go_wp2_with fail
          go_quiet (fail)
          go_wp2_with fail
          exact ⟨⟨i + 1, q0 + nq, hlt, by go_num, by rw [HQ.out, World.drewN_drewN], HN'⟩, by simp [intOf]; omega⟩
        · have HF : Hid (decide (a = b) = false) := by
            apply decide_eq_false
            intro e; subst e; exact he rfl
          have hne : (((a[i] : Nat) : Int) != ((b[i] : Nat) : Int)) = true := by simp; omega
          generalize a[i] = p at *
          generalize b[i] = q at *
          go_wp2_with fail
          go_quiet (fail)
          go_wp2_with fail
          go_ret
          rw [HF.out]
          exact ⟨rfl, q0 + nq, by rw [HQ.out, World.drewN_drewN]⟩
      · have HT : Hid (decide (a = b) = true) := by
          apply decide_eq_true
          apply List.ext_getElem HL.out
          intro j h1 h2
          exact HN.out j h1 h2 (by omega)
        go_wp2_with fail
        go_ret
        rw [HT.out]
        exact ⟨rfl, q0, HQ.out⟩
  · have HF : Hid (decide (a = b) = false) := by
      apply decide_eq_false
      intro e; subst e; exact hl rfl
    have hbl : ((a.length : Int) != (b.length : Int)) = true := by simp; omega
    go_enter Tryd.func35, Tryd.ntmps35
    go_wp2_with fail
    go_ret
    rw [HF.out]
    exact ⟨rfl, 0, (World.drewN_zero w).symm⟩
end Go.Proofs.YthoodkbdpnffdaaDoor
