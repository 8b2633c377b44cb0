/-
  Own work: the calls' contracts once more, for a store of which the functions of the handles 1, 2, .. are a list of tables.
-/
import Derived.Test.YthoodkbdpnffdabDoorKeepW
namespace Go.Proofs.YthoodkbdpnffdabDoor
open Go.RowKit
open Cho (U64 Tab full col Nd Red)

theorem cut_tab (t n : Nat) : Tab n (cutT t n) := Nat.mod_lt _ (Nat.two_pow_pos _)
theorem cut_u64 (t n : Nat) (h : U64 t) : U64 (cutT t n) := Nat.lt_of_le_of_lt (Nat.mod_le _ _) h

/-- Stores of few functions: there is room, and a slot. -/
structure Few (st : St) (k : Nat) : Prop where
  given : st.given = k
  len : st.ns.length ≤ 63 * k
  room : st.room = 4000
  hs : st.hs = (List.range k).map (· + 1) ++ List.replicate (30 - k) 0
theorem few_empty (n : Nat) : Few (St.empty n 4000) 0 := ⟨rfl, by simp [St.empty], rfl, by simp [St.empty]⟩
theorem few_free {st : St} {k : Nat} (h : Few st k) (hk : k < 30) : st.free = k := by
  have hl : st.hs.length = 30 := by rw [h.hs]; simp; omega
  unfold St.free
  apply idx_first (by omega)
  · simp only [h.hs]
    rw [List.getElem_append_right (by simp)]; simp
  · intro j hj hjk
    simp only [h.hs]
    rw [List.getElem_append_left (by simpa using hjk)]; simp
theorem few_added {st : St} {k t : Nat} (h : Few st k) (hi : Inv st) (hk : k < 30) (ht : Tab st.n t) : Few (st.added t) (k + 1) := by
  have hf := few_free h hk
  have ha := added hi ht (by rw [hf]; exact hk)
  refine ⟨by simp [St.added, h.given], by have := ha.len; have := h.len; omega, h.room, ?_⟩
  simp only [St.added]
  rw [hf, h.given, h.hs, List.set_append_right _ _ (by simp)]
  simp only [List.length_map, List.length_range, Nat.sub_self]
  rw [show 30 - k = (30 - (k + 1)) + 1 from by omega, List.replicate_succ]
  simp [List.range_succ]
theorem few_room {st : St} {k t : Nat} (h : Few st k) (hi : Inv st) (hk : k < 30) (ht : Tab st.n t) : (st.added t).ns.length ≤ st.room := by
  have := (few_added h hi hk ht).len
  rw [h.room]; omega


/-- Since the world w0, in which there were B blocks: the store in block s has n variables, and its handles 1, 2, .. call the functions of these tables. -/
structure Fn (B : Nat) (w0 w : World) (s n : Nat) (fs : List Nat) : Prop where
  lo : B ≤ s
  bel : Below B w0 w
  ex : ∃ st, Has w s st ∧ Few st fs.length ∧ st.n = n ∧ ∀ i (h : i < fs.length), st.live (i + 1) ∧ st.tab (i + 1) = fs[i]
theorem Fn.n6 {B : Nat} {w0 w : World} {s n : Nat} {fs : List Nat} (h : Fn B w0 w s n fs) : n ≤ 6 := by obtain ⟨st, h1, _, rfl, _⟩ := h.ex; exact h1.inv.n6
theorem Fn.size {B : Nat} {w0 w : World} {s n : Nat} {fs : List Nat} (h : Fn B w0 w s n fs) : B ≤ w.heap.size := by
  obtain ⟨st, h1, _⟩ := h.ex
  obtain ⟨_, _, _, _, hb, _⟩ := h1.lies.ex
  have := lt_of_block hb; have := h.lo; omega
theorem Fn.below {B : Nat} {w0 w w' : World} {s n : Nat} {fs : List Nat} (h : Fn B w0 w s n fs) (hb : Below w.heap.size w w') : Fn B w0 w' s n fs := by
  obtain ⟨st, h1, h2, h3, h4⟩ := h.ex
  exact ⟨h.lo, h.bel.trans (hb.mono h.size), st, h1.below hb, h2, h3, h4⟩
theorem Fn.tab {B : Nat} {w0 w : World} {s n : Nat} {fs : List Nat} (h : Fn B w0 w s n fs) (i : Nat) (hi : i < fs.length) : Tab n fs[i] := by
  obtain ⟨st, h1, h2, rfl, h4⟩ := h.ex
  rw [← (h4 i hi).2]; exact tab_tab st _

theorem fn_store (n : Nat) (w : World) (h1 : 1 ≤ n) (h6 : n ≤ 6) (hc : Cols w) :
    Calls Tryd.prog 5 #[.int .i64 n] w fun e w' => ∃ s, e = .returned (.tuple #[.pointer (some ⟨s, 0, none⟩), .bool true]) ∧ Fn w.heap.size w w' s n [] := by
  refine (store_calls n w h1 h6 hc).mono ?_
  rintro e w' ⟨s, rfl, h, hs, hb⟩
  exact ⟨s, rfl, hs, hb, _, h, few_empty n, rfl, fun i hi => absurd hi (by simp)⟩

theorem fn_added {B : Nat} {w0 w w' : World} {s n : Nat} {fs : List Nat} {st : St} {t : Nat} (h : Fn B w0 w s n fs) (hst : Has w s st) (hfew : Few st fs.length) (hn : st.n = n) (hall : ∀ i (h : i < fs.length), st.live (i + 1) ∧ st.tab (i + 1) = fs[i])
    (hk : fs.length < 30) (ht : Tab n t) (h' : Has w' s (st.added t)) (hg : w.grownBy w' (some s)) : Fn B w0 w' s n (fs ++ [t]) := by
  subst hn
  have hf := few_free hfew hk
  have ha := added hst.inv ht (by rw [hf]; exact hk)
  refine ⟨h.lo, h.bel.grown hg h.size (fun k hk => by simp at hk; have := h.lo; omega), st.added t, h', by simpa using few_added hfew hst.inv hk ht, rfl, ?_⟩
  intro i hi
  by_cases hik : i < fs.length
  · obtain ⟨a, b⟩ := hall i hik
    obtain ⟨c, _, d⟩ := ha.old _ a
    exact ⟨c, by rw [d, b, List.getElem_append_left hik]⟩
  · obtain rfl : i = fs.length := by simp at hi; omega
    have e : st.given + 1 = fs.length + 1 := by rw [hfew.given]
    refine ⟨by rw [← e]; exact ha.new, ?_⟩
    rw [← e, ha.tab]; simp

theorem fn_same (B : Nat) (w0 w : World) (s n i j : Nat) (fs : List Nat) (a b : Int) (h : Fn B w0 w s n fs) (hi : i < fs.length) (hj : j < fs.length) (ha : a = i + 1) (hb : b = j + 1) :
    Calls Tryd.prog 8 #[.pointer (some ⟨s, 0, none⟩), .int .u32 a, .int .u32 b] w fun e w' => e = .returned (.tuple #[.bool (decide (fs[i] = fs[j])), .int .i64 0]) ∧ w' = w := by
  obtain ⟨st, hst, hfew, rfl, hall⟩ := h.ex
  obtain ⟨li, ei⟩ := hall i hi
  obtain ⟨lj, ej⟩ := hall j hj
  have := same_ok s (i + 1) (j + 1) st w hst li lj
  rw [show (((i + 1 : Nat)) : Int) = a from by omega, show (((j + 1 : Nat)) : Int) = b from by omega, ei, ej] at this
  exact this

end Go.Proofs.YthoodkbdpnffdabDoor
