/-
  Own work: a store after some functions have been made, one behind the other, of tables; its calls (walks over contracts).
-/
import Derived.Test.YthoodkbdpnffdaaDoorFnW
import Derived.Test.YthoodkbdpnffdaaDoorCleanM
namespace Go.Proofs.YthoodkbdpnffdaaDoor
open Go.RowKit
open Cho (U64 Tab full col Nd Red)

/-- The store after these tables' functions have been made. -/
def stOf (n room : Nat) (ts : List Nat) : St := ts.foldl St.added (St.empty n room)
/-- Its nodes: they hang on the tables alone. -/
def nsOf (n : Nat) (ts : List Nat) : List Nd := ts.foldl (fun ns t => (Cho.build (List.range n) t ns).1) []
theorem stOf_snoc (n room : Nat) (ts : List Nat) (t : Nat) : stOf n room (ts ++ [t]) = (stOf n room ts).added t := by simp [stOf]
theorem nsOf_snoc (n : Nat) (ts : List Nat) (t : Nat) : nsOf n (ts ++ [t]) = (Cho.build (List.range n) t (nsOf n ts)).1 := by simp [nsOf]
theorem nsOf_le (n : Nat) (ts : List Nat) (t : Nat) : (nsOf n ts).length ≤ (nsOf n (ts ++ [t])).length := by
  rw [nsOf_snoc]; exact (Cho.build_len _ _ _).1

/-- What holds of it. -/
structure Of (n room : Nat) (ts : List Nat) (st : St) : Prop where
  n' : st.n = n
  room' : st.room = room
  ord : st.ord = List.range n
  ns : st.ns = nsOf n ts
  given : st.given = ts.length
  inv : Inv st
  cl : Clean st
  hs : st.hs = (List.range ts.length).map (· + 1) ++ List.replicate (30 - ts.length) 0
  len : st.ns.length ≤ 63 * ts.length
  tabs : ∀ i (h : i < ts.length), st.live (i + 1) ∧ st.tab (i + 1) = ts[i]
  eq : st = stOf n room ts

theorem of_free {n room : Nat} {ts : List Nat} {st : St} (h : Of n room ts st) (hk : ts.length < 30) : st.free = ts.length := by
  have hl : st.hs.length = 30 := by rw [h.hs]; simp; omega
  unfold St.free
  apply idx_first (by omega)
  · simp only [h.hs]
    rw [List.getElem_append_right (by simp)]; simp
  · intro j hj hjk
    simp only [h.hs]
    rw [List.getElem_append_left (by simpa using hjk)]; simp
theorem of_empty (n room : Nat) (h1 : 1 ≤ n) (h6 : n ≤ 6) : Of n room [] (St.empty n room) :=
  ⟨rfl, rfl, rfl, rfl, rfl, inv_empty n room h1 h6, clean_empty n room, by simp [St.empty], by simp [St.empty], fun i h => absurd h (by simp), rfl⟩
theorem of_snoc {n room : Nat} {ts : List Nat} {st : St} {t : Nat} (h : Of n room ts st) (hk : ts.length < 30) (ht : Tab n t) : Of n room (ts ++ [t]) (st.added t) := by
  have hn := h.n'
  subst hn
  have hf := of_free h hk
  have ha := added h.inv ht (by rw [hf]; exact hk)
  refine ⟨rfl, h.room', h.ord, ?_, by simp [St.added, h.given], ha.inv, clean_added h.inv h.cl t (by rw [hf]; exact hk), ?_, by have := ha.len; have := h.len; simp only [List.length_append, List.length_cons, List.length_nil]; omega, ?_, by rw [stOf_snoc, ← h.eq]⟩
  · rw [nsOf_snoc, ← h.ns, ← h.ord]; rfl
  · simp only [St.added]
    rw [hf, h.given, h.hs, List.set_append_right _ _ (by simp)]
    simp only [List.length_map, List.length_range, Nat.sub_self, List.length_append, List.length_cons, List.length_nil]
    rw [show 30 - ts.length = (30 - (ts.length + 1)) + 1 from by omega, List.replicate_succ]
    simp [List.range_succ]
  · intro i hi
    by_cases hik : i < ts.length
    · obtain ⟨a, b⟩ := h.tabs i hik
      obtain ⟨c, _, d⟩ := ha.old _ a
      exact ⟨c, by rw [d, b, List.getElem_append_left hik]⟩
    · obtain rfl : i = ts.length := by simp at hi; omega
      have e : st.given + 1 = ts.length + 1 := by rw [h.given]
      refine ⟨by rw [← e]; exact ha.new, ?_⟩
      rw [← e, ha.tab]; simp
theorem of_added_ns {n room : Nat} {ts : List Nat} {st : St} {t : Nat} (h : Of n room ts st) : (st.added t).ns = nsOf n (ts ++ [t]) := by
  rw [nsOf_snoc, ← h.ns, ← h.ord]; rfl

/-- Since the world w0, in which there were B blocks: in block s lies a store of n variables and this room, in which the functions of these tables have been made. -/
structure Mk (B : Nat) (w0 w : World) (s n room : Nat) (ts : List Nat) : Prop where
  lo : B ≤ s
  bel : Below B w0 w
  ex : ∃ st, StoreAt w s st ∧ Of n room ts st
theorem Mk.size {B : Nat} {w0 w : World} {s n room : Nat} {ts : List Nat} (h : Mk B w0 w s n room ts) : s < w.heap.size := by
  obtain ⟨st, h1, _⟩ := h.ex
  obtain ⟨_, _, _, _, hb, _⟩ := h1.ex
  exact lt_of_block hb
theorem Mk.blk {B : Nat} {w0 w : World} {s n room : Nat} {ts : List Nat} (h : Mk B w0 w s n room ts) : ∃ cur, w.heap[s]? = some (.cells cur 93 (0, 0)) := by
  obtain ⟨st, h1, _⟩ := h.ex
  obtain ⟨_, _, _, _, hb, _⟩ := h1.ex
  exact ⟨_, hb⟩
theorem Mk.cols {B : Nat} {w0 w : World} {s n room : Nat} {ts : List Nat} (h : Mk B w0 w s n room ts) : Cols w := by
  obtain ⟨st, h1, _⟩ := h.ex; exact h1.cols
theorem Mk.has {B : Nat} {w0 w : World} {s n room : Nat} {ts : List Nat} (h : Mk B w0 w s n room ts) (hk : ts.length ≤ 30) : ∃ st, Has w s st ∧ Of n room ts st := by
  obtain ⟨st, h1, h2⟩ := h.ex
  exact ⟨st, ⟨h1, h2.inv, by have := h2.len; omega⟩, h2⟩

theorem mk_new (B : Nat) (w0 w : World) (n room : Nat) (hB : B ≤ w.heap.size) (hb : Below B w0 w) (h1 : 1 ≤ n) (h6 : n ≤ 6) (hr1 : 1 ≤ room) (hr4 : room ≤ 4000) (hc : Cols w) :
    Calls Tryd.prog 29 #[.int .i64 n, .int .i64 room] w fun e w' => ∃ s, e = .returned (.tuple #[.pointer (some ⟨s, 0, none⟩), .int .i64 0]) ∧ Mk B w0 w' s n room [] ∧ Below w.heap.size w w' := by
  refine (new_calls n room w h1 h6 hr1 hr4 hc).mono ?_
  rintro e w' ⟨s, rfl, hst, hs, hbel⟩
  exact ⟨s, rfl, ⟨by omega, hb.trans (hbel.mono hB), _, hst, of_empty n room h1 h6⟩, hbel⟩

set_option maxHeartbeats 400000 in
theorem make_walk (s t : Nat) (st : St) (w : World) (h : Has w s st) (hf : st.free < 30) (ht : Tab st.n t) (hg : st.given + 1 < 4294967295) :
    Calls Tryd.prog 16 #[.pointer (some ⟨s, 0, none⟩), .int .u64 t] w fun e w' =>
      (st.room < (st.added t).ns.length → e = .returned (.tuple #[.int .u32 0, .int .i64 4]) ∧ StoreAt w' s st) ∧
      ((st.added t).ns.length ≤ st.room → e = .returned (.tuple #[.int .u32 (st.given + 1 : Nat), .int .i64 0]) ∧ StoreAt w' s (st.added t)) ∧ w.grownBy w' (some s) := by
  have H : Hid (Has w s st) := h
  have h0 : w.cell? ⟨s, 0, none⟩ = some (.int .i64 (st.n : Nat)) := by obtain ⟨_, _, _, _, hb, _⟩ := h.lies.ex; exact cell_of_block hb 0
  have hle : ¬ ((full st.n : Nat) : Int) < (t : Int) := by have : t < 2 ^ 2 ^ st.n := ht; unfold full; omega
  have hn := h.inv.n6
  clear h
  go_enter Tryd.func16, Tryd.ntmps16
  go_wp2_with fail
  refine (sfull_calls s st.n _ h0 hn).mono ?_
  rintro e w1 ⟨rfl, rfl⟩
  go_wp2_with fail
  refine (add_walk s t st _ H.out.lies hf (ht.u64 hn) H.out.few hg).mono ?_
  by_cases hr : st.room < (st.added t).ns.length
  · rintro e w2 ⟨a1, _, a3⟩
    obtain ⟨rfl, a1'⟩ := a1 hr
    have A1 : Hid (StoreAt w2 s st ∧ w1.grownBy w2 (some s)) := ⟨a1', a3⟩
    have HRR : Hid (st.room < (st.added t).ns.length) := hr
    clear a1' a1 a3 hr
    go_wp2_with fail
    go_ret2
    exact ⟨fun _ => ⟨rfl, A1.out.1⟩, fun h => absurd h (by have := HRR.out; omega), A1.out.2⟩
  · rintro e w2 ⟨_, a2, a3⟩
    obtain ⟨rfl, a2'⟩ := a2 (Nat.le_of_not_lt hr)
    have A1 : Hid (StoreAt w2 s (st.added t) ∧ w1.grownBy w2 (some s)) := ⟨a2', a3⟩
    have HRR : Hid (¬ st.room < (st.added t).ns.length) := hr
    clear a2' a2 a3 hr
    go_wp2_with fail
    go_ret2
    exact ⟨fun h => absurd h HRR.out, fun _ => ⟨rfl, A1.out.1⟩, A1.out.2⟩

theorem mk_below {B : Nat} {w0 w w' : World} {s n room : Nat} {ts : List Nat} (h : Mk B w0 w s n room ts) (hg : w.grownBy w' (some s)) : Below B w0 w' :=
  h.bel.grown hg (by have := h.lo; have := h.size; omega) (fun k hk => by simp at hk; have := h.lo; omega)

theorem mk_make (B : Nat) (w0 w : World) (s n room t : Nat) (ts : List Nat) (k : Int) (h : Mk B w0 w s n room ts) (hk : k = ts.length + 1) (hl : ts.length < 30) (ht : Tab n t) (hroom : (nsOf n (ts ++ [t])).length ≤ room) :
    Calls Tryd.prog 16 #[.pointer (some ⟨s, 0, none⟩), .int .u64 t] w fun e w' => e = .returned (.tuple #[.int .u32 k, .int .i64 0]) ∧ Mk B w0 w' s n room (ts ++ [t]) ∧ w.grownBy w' (some s) := by
  obtain ⟨st, hst, hof⟩ := h.has (by omega)
  have hn := hof.n'
  subst hn
  have hf := of_free hof hl
  refine (make_walk s t st w hst (by rw [hf]; exact hl) ht (by rw [hof.given]; omega)).mono ?_
  rintro e w' ⟨_, h2, h3⟩
  obtain ⟨rfl, h4⟩ := h2 (by rw [of_added_ns hof, hof.room']; exact hroom)
  exact ⟨by rw [hof.given, hk]; rfl, ⟨h.lo, mk_below h h3, _, h4, of_snoc hof hl ht⟩, h3⟩

theorem mk_refused (B : Nat) (w0 w : World) (s n room t : Nat) (ts : List Nat) (h : Mk B w0 w s n room ts) (hl : ts.length < 30) (ht : Tab n t) (hroom : room < (nsOf n (ts ++ [t])).length) :
    Calls Tryd.prog 16 #[.pointer (some ⟨s, 0, none⟩), .int .u64 t] w fun e w' => e = .returned (.tuple #[.int .u32 0, .int .i64 4]) ∧ Mk B w0 w' s n room ts ∧ w.grownBy w' (some s) := by
  obtain ⟨st, hst, hof⟩ := h.has (by omega)
  have hn := hof.n'
  subst hn
  have hf := of_free hof hl
  refine (make_walk s t st w hst (by rw [hf]; exact hl) ht (by rw [hof.given]; omega)).mono ?_
  rintro e w' ⟨h1, _, h3⟩
  obtain ⟨rfl, h4⟩ := h1 (by rw [of_added_ns hof, hof.room']; exact hroom)
  exact ⟨rfl, ⟨h.lo, mk_below h h3, _, h4, hof⟩, h3⟩

set_option maxHeartbeats 400000 in
theorem used_calls (s : Nat) (st : St) (w : World) (h : StoreAt w s st) :
    Calls Tryd.prog 26 #[.pointer (some ⟨s, 0, none⟩)] w fun e w' => e = .returned (.int .i64 (st.ns.length : Nat)) ∧ w' = w := by
  obtain ⟨go, capo, nv, B, hb, ho, hcur, hcap, hr⟩ := h.ex
  obtain ⟨ao, cap, rfl⟩ := owns_slice hr
  have d1 : w.cell? ⟨s, 63 + 1, none⟩ = some (.slice ao st.ns.length cap) := (cell_of_block hb 64).trans (by rw [List.getElem?_toArray, at_64 h.hs30 h.rs30])
  have HD : Hid (w.cell? ⟨s, 63 + 1, none⟩ = some (.slice ao st.ns.length cap)) := d1
  clear h hb ho hcur hr d1
  go_enter Tryd.func26, Tryd.ntmps26
  go_wp2_with fail
  refine (nodes_calls s 63 _ cap ao _ HD.out).mono ?_
  rintro e w1 ⟨rfl, rfl⟩
  go_wp2_with fail
  go_ret
  exact ⟨rfl, rfl⟩

theorem mk_used (B : Nat) (w0 w : World) (s n room : Nat) (ts : List Nat) (h : Mk B w0 w s n room ts) :
    Calls Tryd.prog 26 #[.pointer (some ⟨s, 0, none⟩)] w fun e w' => e = .returned (.int .i64 ((nsOf n ts).length : Nat)) ∧ w' = w := by
  obtain ⟨st, h1, h2⟩ := h.ex
  rw [← h2.ns]
  exact used_calls s st w h1
end Go.Proofs.YthoodkbdpnffdaaDoor
