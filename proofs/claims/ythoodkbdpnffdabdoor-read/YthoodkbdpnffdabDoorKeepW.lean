/-
  Own work: Export and Import of a store (walks over contracts).
-/
import Derived.Test.YthoodkbdpnffdabDoorTxtW
import Derived.Test.YthoodkbdpnffdabDoorTxtP
import Derived.Test.YthoodkbdpnffdabDoorTakeW
namespace Go.Proofs.YthoodkbdpnffdabDoor
open Go.RowKit
open Cho (U64 Tab full col Nd Red Says readT textOf)

theorem has_vars {w : World} {s : Nat} {st : St} (h : Has w s st) : w.cell? ⟨s, 0, none⟩ = some (.int .i64 (st.n : Nat)) := by
  obtain ⟨_, _, _, _, hb, _⟩ := h.lies.ex; exact cell_of_block hb 0

set_option maxHeartbeats 400000 in
theorem export_live (s a : Nat) (st : St) (w : World) (h : Has w s st) (hl : st.live a) :
    Calls Tryd.prog 10 #[.pointer (some ⟨s, 0, none⟩), .int .u32 a] w fun e w' => e = .returned (.tuple #[txt (textOf st.n (st.tab a)), .int .i64 0]) ∧ Below w.heap.size w w' := by
  have KT : Hid (Calls Tryd.prog 21 #[.pointer (some ⟨s, 0, none⟩), .int .u32 a] w fun e w' => e = .returned (.tuple #[.int .u64 (st.tab a : Nat), .int .i64 0]) ∧ Below w.heap.size w w') := table_ok s a st w h hl
  have HV : Hid (∀ W, Below w.heap.size w W → W.cell? ⟨s, 0, none⟩ = some (.int .i64 (st.n : Nat))) := fun W hW => has_vars (h.below hW)
  have KW : Hid (∀ W, Below w.heap.size w W → Calls Tryd.prog 22 #[.int .u64 (st.tab a : Nat), .int .i64 (st.n : Nat)] W fun e w' => e = .returned (txt (textOf st.n (st.tab a))) ∧ Below w.heap.size w w') := fun W hW =>
    (write_calls st.n (st.tab a) W h.inv.n1 h.inv.n6 (tab_tab st a) (h.below hW).lies.cols).mono fun e w' ⟨h1, h2⟩ => ⟨h1, hW.trans (h2.mono hW.size)⟩
  clear h
  unfold txt at *
  generalize textOf st.n (st.tab a) = T at *
  generalize st.tab a = t at *
  go_enter Tryd.func10, Tryd.ntmps10
  go_wp2_with fail
  refine KT.out.mono ?_
  rintro e w1 ⟨rfl, b1⟩
  have c0 := HV.out w1 b1
  have B1 : Hid _ := b1
  clear b1
  go_wp2_with fail
  refine (KW.out _ B1.out).mono ?_
  rintro e w2 ⟨rfl, b2⟩
  go_wp2_with fail
  go_ret2
  exact ⟨rfl, b2⟩

set_option maxHeartbeats 400000 in
theorem import_yes (s f : Nat) (bs : List UInt8) (st : St) (w : World) (Q : Value → Value → World → Prop) (h : Has w s st) (hl : bs.length ≤ 9223372036854775807) (hr : readT st.n bs = some f)
    (K : ∀ W, Below w.heap.size w W → Calls Tryd.prog 15 #[.pointer (some ⟨s, 0, none⟩), .int .u64 (f : Nat)] W fun e w' => ∃ x y, e = .returned (.tuple #[x, y]) ∧ Q x y w') :
    Calls Tryd.prog 6 #[.pointer (some ⟨s, 0, none⟩), txt bs] w fun e w' => ∃ x y, e = .returned (.tuple #[x, y]) ∧ Q x y w' := by
  have KR : Hid (Calls Tryd.prog 14 #[txt bs, .int .i64 (st.n : Nat)] w fun e w' => e = .returned (.tuple #[.int .u64 (f : Nat), .bool true]) ∧ Below w.heap.size w w') :=
    (read_calls st.n bs w h.inv.n6 hl h.lies.cols).mono fun e w' ⟨h1, h2⟩ => ⟨by
      rcases h1 with ⟨f', h3, h4⟩ | ⟨h3, _⟩
      · rw [hr] at h3; cases h3; exact h4
      · rw [hr] at h3; exact absurd h3 (by simp), h2⟩
  have c0 := has_vars h
  have HK : Hid (∀ W, Below w.heap.size w W → Calls Tryd.prog 15 #[.pointer (some ⟨s, 0, none⟩), .int .u64 (f : Nat)] W fun e w' => ∃ x y, e = .returned (.tuple #[x, y]) ∧ Q x y w') := K
  clear h hr K
  unfold txt at *
  go_enter Tryd.func6, Tryd.ntmps6
  go_wp2_with fail
  refine KR.out.mono ?_
  rintro e w1 ⟨rfl, b1⟩
  go_wp2_with fail
  refine (HK.out _ b1).mono ?_
  rintro e w2 ⟨x, y, rfl, hq⟩
  go_wp2_with fail
  go_ret2
  exact ⟨x, y, rfl, hq⟩

set_option maxHeartbeats 400000 in
theorem import_no (s : Nat) (bs : List UInt8) (st : St) (w : World) (h : Has w s st) (hl : bs.length ≤ 9223372036854775807) (hr : readT st.n bs = none) :
    Calls Tryd.prog 6 #[.pointer (some ⟨s, 0, none⟩), txt bs] w fun e w' => e = .returned (.tuple #[.int .u32 0, .int .i64 (if st.free < 30 then 6 else 3)]) ∧ Below w.heap.size w w' := by
  have KR : Hid (Calls Tryd.prog 14 #[txt bs, .int .i64 (st.n : Nat)] w fun e w' => e = .returned (.tuple #[.int .u64 0, .bool false]) ∧ Below w.heap.size w w') :=
    (read_calls st.n bs w h.inv.n6 hl h.lies.cols).mono fun e w' ⟨h1, h2⟩ => ⟨by
      rcases h1 with ⟨f', h3, _⟩ | ⟨_, h4⟩
      · rw [hr] at h3; cases h3
      · exact h4, h2⟩
  have c0 := has_vars h
  have KF : Hid (∀ W, Below w.heap.size w W → Calls Tryd.prog 16 #[.pointer (some ⟨s, 0, none⟩)] W fun e w' => e = .returned (.int .i64 (ixOr st.free)) ∧ w' = W) := fun W hW => by
    obtain ⟨go, capo, nv, B, hb, _⟩ := (h.below hW).lies.ex
    exact free_calls s st _ nv W hb h.lies.hs30 h.lies.given
  clear h hr
  unfold txt at *
  by_cases hf : st.free < 30
  · rw [ixOr_lt hf] at KF
    rw [if_pos hf]
    have hf0 : ¬ (st.free : Int) < 0 := by omega
    generalize ((st.free : Nat) : Int) = F at *
    clear hf
    go_enter Tryd.func6, Tryd.ntmps6
    go_wp2_with fail
    refine KR.out.mono ?_
    rintro e w1 ⟨rfl, b1⟩
    go_wp2_with fail
    refine (KF.out _ b1).mono ?_
    rintro e w2 ⟨rfl, rfl⟩
    go_wp2_with fail
    go_ret2
    exact ⟨rfl, b1⟩
  · rw [ixOr_ge hf] at KF
    rw [if_neg hf]
    clear hf
    go_enter Tryd.func6, Tryd.ntmps6
    go_wp2_with fail
    refine KR.out.mono ?_
    rintro e w1 ⟨rfl, b1⟩
    go_wp2_with fail
    refine (KF.out _ b1).mono ?_
    rintro e w2 ⟨rfl, rfl⟩
    go_wp2_with fail
    go_ret2
    exact ⟨rfl, b1⟩
end Go.Proofs.YthoodkbdpnffdabDoor

/-
  Own work: the small helpers of the statements (walks).
-/
namespace Go.Proofs.YthoodkbdpnffdabDoor
open Go.RowKit
open Cho (U64 Tab full col Nd Red)

theorem tmod_nn (a n : Int) (ha : 0 ≤ a) (hn : 0 < n) : 0 ≤ a.tmod n ∧ a.tmod n < n := by
  rw [Int.tmod_eq_emod_of_nonneg ha]
  exact ⟨Int.emod_nonneg _ (by omega), Int.emod_lt_of_pos _ hn⟩

set_option maxHeartbeats 400000 in
theorem pick_calls (c : Int) (n : Nat) (w : World) (h1 : -9223372036854775808 ≤ c) (h2 : c ≤ 9223372036854775807) (hn : 0 < n) (hn2 : n ≤ 1000) :
    Calls Tryd.prog 12 #[.int .i64 c, .int .i64 n] w fun e w' => (∃ k : Nat, k < n ∧ e = .returned (.int .i64 k)) ∧ w' = w := by
  have hnz : ((n : Int) == 0) = false := by simp; omega
  by_cases hc : c < 0
  · have hm := tmod_nn (-(c + 1)) n (by omega) (by omega)
    rw [Int.neg_tmod] at hm
    have HM : Hid (0 ≤ -(c + 1).tmod n ∧ -(c + 1).tmod n < n) := hm
    clear hm
    go_enter Tryd.func12, Tryd.ntmps12
    go_wp2
    go_ret
    refine ⟨⟨(-(c + 1).tmod n).toNat, by have := HM.out; omega, ret_int ?_⟩, rfl⟩
    have := HM.out; omega
  · have hm : 0 ≤ c % (n : Int) ∧ c % (n : Int) < n := ⟨Int.emod_nonneg _ (by omega), Int.emod_lt_of_pos _ (by omega)⟩
    have HM : Hid (0 ≤ c % (n : Int) ∧ c % (n : Int) < n) := hm
    clear hm
    go_enter Tryd.func12, Tryd.ntmps12
    go_wp2
    go_ret
    refine ⟨⟨(c % (n : Int)).toNat, by have := HM.out; omega, ret_int ?_⟩, rfl⟩
    have := HM.out; omega

theorem wrap64_bd (n : Int) : -9223372036854775808 ≤ wrap64 n ∧ wrap64 n ≤ 9223372036854775807 := by unfold wrap64; omega

set_option maxHeartbeats 400000 in
theorem vars_calls (c : Int) (w : World) (h1 : -9223372036854775808 ≤ c) (h2 : c ≤ 9223372036854775807) :
    Calls Tryd.prog 4 #[.int .i64 c] w fun e w' => (∃ n : Nat, 1 ≤ n ∧ n ≤ 6 ∧ e = .returned (.int .i64 n)) ∧ w' = w := by
  by_cases hc : c = -9223372036854775808
  · subst hc
    go_enter Tryd.func4, Tryd.ntmps4
    go_wp2_with fail
    refine (pick_calls _ 6 _ (wrap64_bd _).1 (wrap64_bd _).2 (by decide) (by decide)).mono ?_
    rintro e w1 ⟨⟨k, hk, rfl⟩, rfl⟩
    go_wp2_with fail
    go_ret
    exact ⟨⟨k + 1, by omega, by omega, ret_int (by omega)⟩, rfl⟩
  · have hb : -9223372036854775808 ≤ c - 1 := by omega
    clear hc
    go_enter Tryd.func4, Tryd.ntmps4
    go_wp2_with fail
    refine (pick_calls _ 6 _ (by omega) (by omega) (by decide) (by decide)).mono ?_
    rintro e w1 ⟨⟨k, hk, rfl⟩, rfl⟩
    go_wp2_with fail
    go_ret
    exact ⟨⟨k + 1, by omega, by omega, ret_int (by omega)⟩, rfl⟩

theorem cut_eq (t k : Nat) (hk : k ≤ 64) : ((t <<< (64 - k)) % 2 ^ 64) >>> (64 - k) = t % 2 ^ k := by
  apply Nat.eq_of_testBit_eq
  intro i
  rw [Nat.testBit_shiftRight, Nat.testBit_mod_two_pow, Nat.testBit_mod_two_pow, Nat.testBit_shiftLeft]
  by_cases h : i < k
  · simp [h]
    intro _; omega
  · simp [h]
    intro; omega

/-- A table cut to the places there are. -/
def cutT (t n : Nat) : Nat := t % 2 ^ 2 ^ n

set_option maxHeartbeats 400000 in
theorem store_calls (n : Nat) (w : World) (h1 : 1 ≤ n) (h6 : n ≤ 6) (hc : Cols w) :
    Calls Tryd.prog 5 #[.int .i64 n] w fun e w' => ∃ s, e = .returned (.tuple #[.pointer (some ⟨s, 0, none⟩), .bool true]) ∧ Has w' s (St.empty n 4000) ∧ w.heap.size ≤ s ∧ Below w.heap.size w w' := by
  have HC : Hid (Cols w) := hc
  clear hc
  go_enter Tryd.func5, Tryd.ntmps5
  go_wp2_with fail
  refine (new_calls n 4000 _ h1 h6 (by decide) (by decide) HC.out).mono ?_
  rintro e w1 ⟨s, rfl, hst, hs, hbel⟩
  go_wp2_with fail
  go_ret2
  exact ⟨s, rfl, ⟨hst, inv_empty n 4000 h1 h6, by simp [St.empty]⟩, hs, hbel⟩

end Go.Proofs.YthoodkbdpnffdabDoor
