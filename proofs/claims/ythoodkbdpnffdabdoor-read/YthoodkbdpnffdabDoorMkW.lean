/-
  Own work: a store after some functions have been made, one behind the other, of tables; its calls (walks over contracts).
-/
import Derived.Test.YthoodkbdpnffdabDoorFnW
import Derived.Test.YthoodkbdpnffdabDoorCleanM
namespace Go.Proofs.YthoodkbdpnffdabDoor
open Go.RowKit
open Cho (U64 Tab full col Nd Red)

/-- The store after these tables' functions have been made. -/
def stOf (n room : Nat) (ts : List Nat) : St := ts.foldl St.added (St.empty n room)
/-- Its nodes: they hang on the tables alone. -/
def nsOf (n : Nat) (ts : List Nat) : List Nd := ts.foldl (fun ns t => (Cho.build (List.range n) t ns).1) []
theorem stOf_snoc (n room : Nat) (ts : List Nat) (t : Nat) : stOf n room (ts ++ [t]) = (stOf n room ts).added t := by simp [stOf]
theorem nsOf_snoc (n : Nat) (ts : List Nat) (t : Nat) : nsOf n (ts ++ [t]) = (Cho.build (List.range n) t (nsOf n ts)).1 := by simp [nsOf]
theorem nsOf_le (n : Nat) (ts : List Nat) (t : Nat) : (nsOf n ts).length ≤ (nsOf n (ts ++ [t])).length := by
  rw [nsOf_snoc]; exact (Cho.build_len _ _ _).1

/-- What holds of it. -/
structure Of (n room : Nat) (ts : List Nat) (st : St) : Prop where
  n' : st.n = n
  room' : st.room = room
  ord : st.ord = List.range n
  ns : st.ns = nsOf n ts
  given : st.given = ts.length
  inv : Inv st
  cl : Clean st
  hs : st.hs = (List.range ts.length).map (· + 1) ++ List.replicate (30 - ts.length) 0
  len : st.ns.length ≤ 63 * ts.length
  tabs : ∀ i (h : i < ts.length), st.live (i + 1) ∧ st.tab (i + 1) = ts[i]
  eq : st = stOf n room ts

theorem of_free {n room : Nat} {ts : List Nat} {st : St} (h : Of n room ts st) (hk : ts.length < 30) : st.free = ts.length := by
  have hl : st.hs.length = 30 := by rw [h.hs]; simp; omega
  unfold St.free
  apply idx_first (by omega)
  · simp only [h.hs]
    rw [List.getElem_append_right (by simp)]; simp
  · intro j hj hjk
    simp only [h.hs]
    rw [List.getElem_append_left (by simpa using hjk)]; simp
theorem of_empty (n room : Nat) (h1 : 1 ≤ n) (h6 : n ≤ 6) : Of n room [] (St.empty n room) :=
  ⟨rfl, rfl, rfl, rfl, rfl, inv_empty n room h1 h6, clean_empty n room, by simp [St.empty], by simp [St.empty], fun i h => absurd h (by simp), rfl⟩
theorem of_snoc {n room : Nat} {ts : List Nat} {st : St} {t : Nat} (h : Of n room ts st) (hk : ts.length < 30) (ht : Tab n t) : Of n room (ts ++ [t]) (st.added t) := by
  have hn := h.n'
  subst hn
  have hf := of_free h hk
  have ha := added h.inv ht (by rw [hf]; exact hk)
  refine ⟨rfl, h.room', h.ord, ?_, by simp [St.added, h.given], ha.inv, clean_added h.inv h.cl t (by rw [hf]; exact hk), ?_, by have := ha.len; have := h.len; simp only [List.length_append, List.length_cons, List.length_nil]; omega, ?_, by rw [stOf_snoc, ← h.eq]⟩
  · rw [nsOf_snoc, ← h.ns, ← h.ord]; rfl
  · simp only [St.added]
    rw [hf, h.given, h.hs, List.set_append_right _ _ (by simp)]
    simp only [List.length_map, List.length_range, Nat.sub_self, List.length_append, List.length_cons, List.length_nil]
    rw [show 30 - ts.length = (30 - (ts.length + 1)) + 1 from by omega, List.replicate_succ]
    simp [List.range_succ]
  · intro i hi
    by_cases hik : i < ts.length
    · obtain ⟨a, b⟩ := h.tabs i hik
      obtain ⟨c, _, d⟩ := ha.old _ a
      exact ⟨c, by rw [d, b, List.getElem_append_left hik]⟩
    · obtain rfl : i = ts.length := by simp at hi; omega
      have e : st.given + 1 = ts.length + 1 := by rw [h.given]
      refine ⟨by rw [← e]; exact ha.new, ?_⟩
      rw [← e, ha.tab]; simp
theorem of_added_ns {n room : Nat} {ts : List Nat} {st : St} {t : Nat} (h : Of n room ts st) : (st.added t).ns = nsOf n (ts ++ [t]) := by
  rw [nsOf_snoc, ← h.ns, ← h.ord]; rfl

/-- Since the world w0, in which there were B blocks: in block s lies a store of n variables and this room, in which the functions of these tables have been made. -/
structure Mk (B : Nat) (w0 w : World) (s n room : Nat) (ts : List Nat) : Prop where
  lo : B ≤ s
  bel : Below B w0 w
  ex : ∃ st, StoreAt w s st ∧ Of n room ts st
theorem Mk.size {B : Nat} {w0 w : World} {s n room : Nat} {ts : List Nat} (h : Mk B w0 w s n room ts) : s < w.heap.size := by
  obtain ⟨st, h1, _⟩ := h.ex
  obtain ⟨_, _, _, _, hb, _⟩ := h1.ex
  exact lt_of_block hb
theorem Mk.blk {B : Nat} {w0 w : World} {s n room : Nat} {ts : List Nat} (h : Mk B w0 w s n room ts) : ∃ cur, w.heap[s]? = some (.cells cur 53 (0, 0)) := by
  obtain ⟨st, h1, _⟩ := h.ex
  obtain ⟨_, _, _, _, hb, _⟩ := h1.ex
  exact ⟨_, hb⟩
theorem Mk.cols {B : Nat} {w0 w : World} {s n room : Nat} {ts : List Nat} (h : Mk B w0 w s n room ts) : Cols w := by
  obtain ⟨st, h1, _⟩ := h.ex; exact h1.cols
theorem Mk.has {B : Nat} {w0 w : World} {s n room : Nat} {ts : List Nat} (h : Mk B w0 w s n room ts) (hk : ts.length ≤ 30) : ∃ st, Has w s st ∧ Of n room ts st := by
  obtain ⟨st, h1, h2⟩ := h.ex
  exact ⟨st, ⟨h1, h2.inv, by have := h2.len; omega⟩, h2⟩

theorem mk_new (B : Nat) (w0 w : World) (n room : Nat) (hB : B ≤ w.heap.size) (hb : Below B w0 w) (h1 : 1 ≤ n) (h6 : n ≤ 6) (hr1 : 1 ≤ room) (hr4 : room ≤ 4000) (hc : Cols w) :
    Calls Tryd.prog 13 #[.int .i64 n, .int .i64 room] w fun e w' => ∃ s, e = .returned (.tuple #[.pointer (some ⟨s, 0, none⟩), .int .i64 0]) ∧ Mk B w0 w' s n room [] ∧ Below w.heap.size w w' := by
  refine (new_calls n room w h1 h6 hr1 hr4 hc).mono ?_
  rintro e w' ⟨s, rfl, hst, hs, hbel⟩
  exact ⟨s, rfl, ⟨by omega, hb.trans (hbel.mono hB), _, hst, of_empty n room h1 h6⟩, hbel⟩

theorem mk_below {B : Nat} {w0 w w' : World} {s n room : Nat} {ts : List Nat} (h : Mk B w0 w s n room ts) (hg : w.grownBy w' (some s)) : Below B w0 w' :=
  h.bel.grown hg (by have := h.lo; have := h.size; omega) (fun k hk => by simp at hk; have := h.lo; omega)

set_option maxHeartbeats 400000 in
theorem used_calls (s : Nat) (st : St) (w : World) (h : StoreAt w s st) :
    Calls Tryd.prog 9 #[.pointer (some ⟨s, 0, none⟩)] w fun e w' => e = .returned (.int .i64 (st.ns.length : Nat)) ∧ w' = w := by
  obtain ⟨go, capo, nv, B, hb, ho, hcur, hcap, hr⟩ := h.ex
  obtain ⟨ao, cap, rfl⟩ := owns_slice hr
  have d1 : w.cell? ⟨s, 63 + 1, none⟩ = some (.slice ao st.ns.length cap) := (cell_of_block hb 64).trans (by rw [List.getElem?_toArray, at_64 h.hs30 h.rs30])
  have HD : Hid (w.cell? ⟨s, 63 + 1, none⟩ = some (.slice ao st.ns.length cap)) := d1
  clear h hb ho hcur hr d1
  go_enter Tryd.func9, Tryd.ntmps9
  go_wp2_with fail
  refine (nodes_calls s 63 _ cap ao _ HD.out).mono ?_
  rintro e w1 ⟨rfl, rfl⟩
  go_wp2_with fail
  go_ret
  exact ⟨rfl, rfl⟩

theorem mk_used (B : Nat) (w0 w : World) (s n room : Nat) (ts : List Nat) (h : Mk B w0 w s n room ts) :
    Calls Tryd.prog 9 #[.pointer (some ⟨s, 0, none⟩)] w fun e w' => e = .returned (.int .i64 ((nsOf n ts).length : Nat)) ∧ w' = w := by
  obtain ⟨st, h1, h2⟩ := h.ex
  rw [← h2.ns]
  exact used_calls s st w h1
end Go.Proofs.YthoodkbdpnffdabDoor
