/-
  Own work: the small helpers of the statements (walks).
-/
import Derived.Test.YthoodkbdpnffdaaDoorPubW
namespace Go.Proofs.YthoodkbdpnffdaaDoor
open Go.RowKit
open Cho (U64 Tab full col Nd Red)

theorem tmod_nn (a n : Int) (ha : 0 ≤ a) (hn : 0 < n) : 0 ≤ a.tmod n ∧ a.tmod n < n := by
  rw [Int.tmod_eq_emod_of_nonneg ha]
  exact ⟨Int.emod_nonneg _ (by omega), Int.emod_lt_of_pos _ hn⟩

set_option maxHeartbeats 400000 in
theorem pick_calls (c : Int) (n : Nat) (w : World) (h1 : -9223372036854775808 ≤ c) (h2 : c ≤ 9223372036854775807) (hn : 0 < n) (hn2 : n ≤ 1000) :
    Calls Tryd.prog 13 #[.int .i64 c, .int .i64 n] w fun e w' => (∃ k : Nat, k < n ∧ e = .returned (.int .i64 k)) ∧ w' = w := by
  have hnz : ((n : Int) == 0) = false := by simp; omega
  by_cases hc : c < 0
  · have hm := tmod_nn (-(c + 1)) n (by omega) (by omega)
    rw [Int.neg_tmod] at hm
    have HM : Hid (0 ≤ -(c + 1).tmod n ∧ -(c + 1).tmod n < n) := hm
    clear hm
    go_enter Tryd.func13, Tryd.ntmps13
    go_wp2
    go_ret
    refine ⟨⟨(-(c + 1).tmod n).toNat, by have := HM.out; omega, ret_int ?_⟩, rfl⟩
    have := HM.out; omega
  · have hm : 0 ≤ c % (n : Int) ∧ c % (n : Int) < n := ⟨Int.emod_nonneg _ (by omega), Int.emod_lt_of_pos _ (by omega)⟩
    have HM : Hid (0 ≤ c % (n : Int) ∧ c % (n : Int) < n) := hm
    clear hm
    go_enter Tryd.func13, Tryd.ntmps13
    go_wp2
    go_ret
    refine ⟨⟨(c % (n : Int)).toNat, by have := HM.out; omega, ret_int ?_⟩, rfl⟩
    have := HM.out; omega

theorem wrap64_bd (n : Int) : -9223372036854775808 ≤ wrap64 n ∧ wrap64 n ≤ 9223372036854775807 := by unfold wrap64; omega

set_option maxHeartbeats 400000 in
theorem vars_calls (c : Int) (w : World) (h1 : -9223372036854775808 ≤ c) (h2 : c ≤ 9223372036854775807) :
    Calls Tryd.prog 12 #[.int .i64 c] w fun e w' => (∃ n : Nat, 1 ≤ n ∧ n ≤ 6 ∧ e = .returned (.int .i64 n)) ∧ w' = w := by
  by_cases hc : c = -9223372036854775808
  · subst hc
    go_enter Tryd.func12, Tryd.ntmps12
    go_wp2_with fail
    refine (pick_calls _ 6 _ (wrap64_bd _).1 (wrap64_bd _).2 (by decide) (by decide)).mono ?_
    rintro e w1 ⟨⟨k, hk, rfl⟩, rfl⟩
    go_wp2_with fail
    go_ret
    exact ⟨⟨k + 1, by omega, by omega, ret_int (by omega)⟩, rfl⟩
  · have hb : -9223372036854775808 ≤ c - 1 := by omega
    clear hc
    go_enter Tryd.func12, Tryd.ntmps12
    go_wp2_with fail
    refine (pick_calls _ 6 _ (by omega) (by omega) (by decide) (by decide)).mono ?_
    rintro e w1 ⟨⟨k, hk, rfl⟩, rfl⟩
    go_wp2_with fail
    go_ret
    exact ⟨⟨k + 1, by omega, by omega, ret_int (by omega)⟩, rfl⟩

theorem cut_eq (t k : Nat) (hk : k ≤ 64) : ((t <<< (64 - k)) % 2 ^ 64) >>> (64 - k) = t % 2 ^ k := by
  apply Nat.eq_of_testBit_eq
  intro i
  rw [Nat.testBit_shiftRight, Nat.testBit_mod_two_pow, Nat.testBit_mod_two_pow, Nat.testBit_shiftLeft]
  by_cases h : i < k
  · simp [h]
    intro _; omega
  · simp [h]
    intro; omega

/-- A table cut to the places there are. -/
def cutT (t n : Nat) : Nat := t % 2 ^ 2 ^ n

set_option maxHeartbeats 1000000 in
theorem cut_calls (t n : Nat) (w : World) (ht : U64 t) (hn : n ≤ 6) :
    Calls Tryd.prog 15 #[.int .u64 t, .int .i64 n] w fun e w' => e = .returned (.int .u64 (cutT t n : Nat)) ∧ w' = w := by
  have hx : n = 0 ∨ n = 1 ∨ n = 2 ∨ n = 3 ∨ n = 4 ∨ n = 5 ∨ n = 6 := by omega
  rcases hx with rfl | rfl | rfl | rfl | rfl | rfl | rfl
  all_goals
    go_enter Tryd.func15, Tryd.ntmps15
    go_wp2
    go_ret
    refine ⟨ret_int ?_, rfl⟩
    have h64 := ht.lt
    simp only [cutT, Nat.reducePow]
    first | done | (rw [IntKind.wrap_u64]; omega) | omega

set_option maxHeartbeats 400000 in
theorem store_calls (n : Nat) (w : World) (h1 : 1 ≤ n) (h6 : n ≤ 6) (hc : Cols w) :
    Calls Tryd.prog 14 #[.int .i64 n] w fun e w' => ∃ s, e = .returned (.tuple #[.pointer (some ⟨s, 0, none⟩), .bool true]) ∧ Has w' s (St.empty n 4000) ∧ w.heap.size ≤ s ∧ Below w.heap.size w w' := by
  have HC : Hid (Cols w) := hc
  clear hc
  go_enter Tryd.func14, Tryd.ntmps14
  go_wp2_with fail
  refine (new_calls n 4000 _ h1 h6 (by decide) (by decide) HC.out).mono ?_
  rintro e w1 ⟨s, rfl, hst, hs, hbel⟩
  go_wp2_with fail
  go_ret2
  exact ⟨s, rfl, ⟨hst, inv_empty n 4000 h1 h6, by simp [St.empty]⟩, hs, hbel⟩

set_option maxHeartbeats 400000 in
theorem is_ok (s a t : Nat) (st : St) (w : World) (h : Has w s st) (hl : st.live a) (ht : st.tab a = t) :
    Calls Tryd.prog 18 #[.pointer (some ⟨s, 0, none⟩), .int .u32 a, .int .i64 0, .int .u64 t] w fun e w' => e = .returned (.bool true) ∧ Below w.heap.size w w' := by
  have HT := table_ok s a st w h hl
  rw [ht] at HT
  have H : Hid (Calls Tryd.prog 42 #[.pointer (some ⟨s, 0, none⟩), .int .u32 a] w fun e w' => e = .returned (.tuple #[.int .u64 t, .int .i64 0]) ∧ Below w.heap.size w w') := HT
  clear h HT ht
  go_enter Tryd.func18, Tryd.ntmps18
  go_wp2_with fail
  refine H.out.mono ?_
  rintro e w1 ⟨rfl, b1⟩
  go_wp2_with fail
  go_ret
  exact ⟨by simp, b1⟩
end Go.Proofs.YthoodkbdpnffdaaDoor

/-
  Own work: the calls' contracts once more, for a store of which the functions of the handles 1, 2, .. are a list of tables.
-/
namespace Go.Proofs.YthoodkbdpnffdaaDoor
open Go.RowKit
open Cho (U64 Tab full col Nd Red)

theorem cut_tab (t n : Nat) : Tab n (cutT t n) := Nat.mod_lt _ (Nat.two_pow_pos _)
theorem cut_u64 (t n : Nat) (h : U64 t) : U64 (cutT t n) := Nat.lt_of_le_of_lt (Nat.mod_le _ _) h

/-- Stores of few functions: there is room, and a slot. -/
structure Few (st : St) (k : Nat) : Prop where
  given : st.given = k
  len : st.ns.length ≤ 63 * k
  room : st.room = 4000
  hs : st.hs = (List.range k).map (· + 1) ++ List.replicate (30 - k) 0
theorem few_empty (n : Nat) : Few (St.empty n 4000) 0 := ⟨rfl, by simp [St.empty], rfl, by simp [St.empty]⟩
theorem few_free {st : St} {k : Nat} (h : Few st k) (hk : k < 30) : st.free = k := by
  have hl : st.hs.length = 30 := by rw [h.hs]; simp; omega
  unfold St.free
  apply idx_first (by omega)
  · simp only [h.hs]
    rw [List.getElem_append_right (by simp)]; simp
  · intro j hj hjk
    simp only [h.hs]
    rw [List.getElem_append_left (by simpa using hjk)]; simp
theorem few_added {st : St} {k t : Nat} (h : Few st k) (hi : Inv st) (hk : k < 30) (ht : Tab st.n t) : Few (st.added t) (k + 1) := by
  have hf := few_free h hk
  have ha := added hi ht (by rw [hf]; exact hk)
  refine ⟨by simp [St.added, h.given], by have := ha.len; have := h.len; omega, h.room, ?_⟩
  simp only [St.added]
  rw [hf, h.given, h.hs, List.set_append_right _ _ (by simp)]
  simp only [List.length_map, List.length_range, Nat.sub_self]
  rw [show 30 - k = (30 - (k + 1)) + 1 from by omega, List.replicate_succ]
  simp [List.range_succ]
theorem few_room {st : St} {k t : Nat} (h : Few st k) (hi : Inv st) (hk : k < 30) (ht : Tab st.n t) : (st.added t).ns.length ≤ st.room := by
  have := (few_added h hi hk ht).len
  rw [h.room]; omega


/-- Since the world w0, in which there were B blocks: the store in block s has n variables, and its handles 1, 2, .. call the functions of these tables. -/
structure Fn (B : Nat) (w0 w : World) (s n : Nat) (fs : List Nat) : Prop where
  lo : B ≤ s
  bel : Below B w0 w
  ex : ∃ st, Has w s st ∧ Few st fs.length ∧ st.n = n ∧ ∀ i (h : i < fs.length), st.live (i + 1) ∧ st.tab (i + 1) = fs[i]
theorem Fn.n6 {B : Nat} {w0 w : World} {s n : Nat} {fs : List Nat} (h : Fn B w0 w s n fs) : n ≤ 6 := by obtain ⟨st, h1, _, rfl, _⟩ := h.ex; exact h1.inv.n6
theorem Fn.size {B : Nat} {w0 w : World} {s n : Nat} {fs : List Nat} (h : Fn B w0 w s n fs) : B ≤ w.heap.size := by
  obtain ⟨st, h1, _⟩ := h.ex
  obtain ⟨_, _, _, _, hb, _⟩ := h1.lies.ex
  have := lt_of_block hb; have := h.lo; omega
theorem Fn.below {B : Nat} {w0 w w' : World} {s n : Nat} {fs : List Nat} (h : Fn B w0 w s n fs) (hb : Below w.heap.size w w') : Fn B w0 w' s n fs := by
  obtain ⟨st, h1, h2, h3, h4⟩ := h.ex
  exact ⟨h.lo, h.bel.trans (hb.mono h.size), st, h1.below hb, h2, h3, h4⟩
theorem Fn.tab {B : Nat} {w0 w : World} {s n : Nat} {fs : List Nat} (h : Fn B w0 w s n fs) (i : Nat) (hi : i < fs.length) : Tab n fs[i] := by
  obtain ⟨st, h1, h2, rfl, h4⟩ := h.ex
  rw [← (h4 i hi).2]; exact tab_tab st _

theorem fn_store (n : Nat) (w : World) (h1 : 1 ≤ n) (h6 : n ≤ 6) (hc : Cols w) :
    Calls Tryd.prog 14 #[.int .i64 n] w fun e w' => ∃ s, e = .returned (.tuple #[.pointer (some ⟨s, 0, none⟩), .bool true]) ∧ Fn w.heap.size w w' s n [] := by
  refine (store_calls n w h1 h6 hc).mono ?_
  rintro e w' ⟨s, rfl, h, hs, hb⟩
  exact ⟨s, rfl, hs, hb, _, h, few_empty n, rfl, fun i hi => absurd hi (by simp)⟩

theorem fn_added {B : Nat} {w0 w w' : World} {s n : Nat} {fs : List Nat} {st : St} {t : Nat} (h : Fn B w0 w s n fs) (hst : Has w s st) (hfew : Few st fs.length) (hn : st.n = n) (hall : ∀ i (h : i < fs.length), st.live (i + 1) ∧ st.tab (i + 1) = fs[i])
    (hk : fs.length < 30) (ht : Tab n t) (h' : Has w' s (st.added t)) (hg : w.grownBy w' (some s)) : Fn B w0 w' s n (fs ++ [t]) := by
  subst hn
  have hf := few_free hfew hk
  have ha := added hst.inv ht (by rw [hf]; exact hk)
  refine ⟨h.lo, h.bel.grown hg h.size (fun k hk => by simp at hk; have := h.lo; omega), st.added t, h', by simpa using few_added hfew hst.inv hk ht, rfl, ?_⟩
  intro i hi
  by_cases hik : i < fs.length
  · obtain ⟨a, b⟩ := hall i hik
    obtain ⟨c, _, d⟩ := ha.old _ a
    exact ⟨c, by rw [d, b, List.getElem_append_left hik]⟩
  · obtain rfl : i = fs.length := by simp at hi; omega
    have e : st.given + 1 = fs.length + 1 := by rw [hfew.given]
    refine ⟨by rw [← e]; exact ha.new, ?_⟩
    rw [← e, ha.tab]; simp

theorem fn_make (B : Nat) (w0 w : World) (s n t : Nat) (fs : List Nat) (k : Int) (h : Fn B w0 w s n fs) (hk : k = fs.length + 1) (hl : fs.length < 30) (ht : Tab n t) :
    Calls Tryd.prog 16 #[.pointer (some ⟨s, 0, none⟩), .int .u64 t] w fun e w' => e = .returned (.tuple #[.int .u32 k, .int .i64 0]) ∧ Fn B w0 w' s n (fs ++ [t]) := by
  obtain ⟨st, hst, hfew, rfl, hall⟩ := h.ex
  have hf := few_free hfew hl
  refine (make_ok s t st w hst (by rw [hf]; exact hl) ht (few_room hfew hst.inv hl ht) (by rw [hfew.given]; omega)).mono ?_
  rintro e w' ⟨rfl, h', hg⟩
  exact ⟨by rw [hfew.given, hk]; rfl, fn_added h hst hfew rfl hall hl ht h' hg⟩

theorem fn_apply (B : Nat) (w0 w : World) (s n c i j : Nat) (fs : List Nat) (a b k : Int) (h : Fn B w0 w s n fs) (hc : c < 16) (hi : i < fs.length) (hj : j < fs.length) (ha : a = i + 1) (hb : b = j + 1) (hk : k = fs.length + 1) (hl : fs.length < 30) :
    Calls Tryd.prog 17 #[.pointer (some ⟨s, 0, none⟩), .int .i64 c, .int .u32 a, .int .u32 b] w fun e w' => e = .returned (.tuple #[.int .u32 k, .int .i64 0]) ∧ Fn B w0 w' s n (fs ++ [Cho.joinT c fs[i] fs[j] (full n)]) := by
  obtain ⟨st, hst, hfew, rfl, hall⟩ := h.ex
  have hf := few_free hfew hl
  have ti := h.tab i hi
  have tj := h.tab j hj
  have hJ := Cho.joinT_tab c _ _ _ ti tj
  obtain ⟨li, ei⟩ := hall i hi
  obtain ⟨lj, ej⟩ := hall j hj
  have := apply_ok s c (i + 1) (j + 1) st w hst hc li lj (by rw [hf]; exact hl) (by rw [ei, ej]; exact few_room hfew hst.inv hl hJ) (by rw [hfew.given]; omega)
  rw [ei, ej, show (((i + 1 : Nat)) : Int) = a from by omega, show (((j + 1 : Nat)) : Int) = b from by omega] at this
  refine this.mono ?_
  rintro e w' ⟨rfl, h', hg⟩
  exact ⟨by rw [hfew.given, hk]; rfl, fn_added h hst hfew rfl hall hl hJ h' hg⟩

theorem fn_is (B : Nat) (w0 w : World) (s n i t : Nat) (fs : List Nat) (a : Int) (h : Fn B w0 w s n fs) (hi : i < fs.length) (ha : a = i + 1) (ht : fs[i] = t) :
    Calls Tryd.prog 18 #[.pointer (some ⟨s, 0, none⟩), .int .u32 a, .int .i64 0, .int .u64 t] w fun e w' => e = .returned (.bool true) ∧ Fn B w0 w' s n fs := by
  obtain ⟨st, hst, hfew, rfl, hall⟩ := h.ex
  obtain ⟨li, ei⟩ := hall i hi
  have := is_ok s (i + 1) t st w hst li (by rw [ei, ht])
  rw [show (((i + 1 : Nat)) : Int) = a from by omega] at this
  refine this.mono ?_
  rintro e w' ⟨rfl, hb⟩
  exact ⟨rfl, h.below hb⟩

theorem fn_same (B : Nat) (w0 w : World) (s n i j : Nat) (fs : List Nat) (a b : Int) (h : Fn B w0 w s n fs) (hi : i < fs.length) (hj : j < fs.length) (ha : a = i + 1) (hb : b = j + 1) :
    Calls Tryd.prog 19 #[.pointer (some ⟨s, 0, none⟩), .int .u32 a, .int .u32 b] w fun e w' => e = .returned (.tuple #[.bool (decide (fs[i] = fs[j])), .int .i64 0]) ∧ w' = w := by
  obtain ⟨st, hst, hfew, rfl, hall⟩ := h.ex
  obtain ⟨li, ei⟩ := hall i hi
  obtain ⟨lj, ej⟩ := hall j hj
  have := same_ok s (i + 1) (j + 1) st w hst li lj
  rw [show (((i + 1 : Nat)) : Int) = a from by omega, show (((j + 1 : Nat)) : Int) = b from by omega, ei, ej] at this
  exact this

theorem fn_count (B : Nat) (w0 w : World) (s n i : Nat) (fs : List Nat) (a : Int) (h : Fn B w0 w s n fs) (hi : i < fs.length) (ha : a = i + 1) :
    Calls Tryd.prog 20 #[.pointer (some ⟨s, 0, none⟩), .int .u32 a] w fun e w' => e = .returned (.tuple #[.int .i64 (Cho.cnt fs[i] 64 : Nat), .int .i64 0]) ∧ Fn B w0 w' s n fs := by
  obtain ⟨st, hst, hfew, rfl, hall⟩ := h.ex
  obtain ⟨li, ei⟩ := hall i hi
  have := count_ok s (i + 1) st w hst li
  rw [show (((i + 1 : Nat)) : Int) = a from by omega, ei] at this
  refine this.mono ?_
  rintro e w' ⟨rfl, hb⟩
  exact ⟨rfl, h.below hb⟩

theorem fn_eval (B : Nat) (w0 w : World) (s n i p : Nat) (fs : List Nat) (a : Int) (h : Fn B w0 w s n fs) (hi : i < fs.length) (ha : a = i + 1) (hp : p < 2 ^ n) :
    Calls Tryd.prog 23 #[.pointer (some ⟨s, 0, none⟩), .int .u32 a, .int .u8 p] w fun e w' => e = .returned (.tuple #[.bool (fs[i].testBit p), .int .i64 0]) ∧ Fn B w0 w' s n fs := by
  obtain ⟨st, hst, hfew, rfl, hall⟩ := h.ex
  obtain ⟨li, ei⟩ := hall i hi
  have := eval_ok s (i + 1) p st w hst li hp
  rw [show (((i + 1 : Nat)) : Int) = a from by omega, ei] at this
  refine this.mono ?_
  rintro e w' ⟨rfl, hb⟩
  exact ⟨rfl, h.below hb⟩
end Go.Proofs.YthoodkbdpnffdaaDoor
