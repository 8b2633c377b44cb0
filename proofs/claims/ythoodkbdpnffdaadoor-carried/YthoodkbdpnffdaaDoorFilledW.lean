/-
  Own work: a store after some functions have been made, one behind the other, of tables; its calls (walks over contracts).
-/
import Derived.Test.YthoodkbdpnffdaaDoorFnW
import Derived.Test.YthoodkbdpnffdaaDoorCleanM
namespace Go.Proofs.YthoodkbdpnffdaaDoor
open Go.RowKit
open Cho (U64 Tab full col Nd Red)

/-- The store after these tables' functions have been made. -/
def stOf (n room : Nat) (ts : List Nat) : St := ts.foldl St.added (St.empty n room)
/-- Its nodes: they hang on the tables alone. -/
def nsOf (n : Nat) (ts : List Nat) : List Nd := ts.foldl (fun ns t => (Cho.build (List.range n) t ns).1) []
theorem stOf_snoc (n room : Nat) (ts : List Nat) (t : Nat) : stOf n room (ts ++ [t]) = (stOf n room ts).added t := by simp [stOf]
theorem nsOf_snoc (n : Nat) (ts : List Nat) (t : Nat) : nsOf n (ts ++ [t]) = (Cho.build (List.range n) t (nsOf n ts)).1 := by simp [nsOf]
theorem nsOf_le (n : Nat) (ts : List Nat) (t : Nat) : (nsOf n ts).length ≤ (nsOf n (ts ++ [t])).length := by
  rw [nsOf_snoc]; exact (Cho.build_len _ _ _).1

/-- What holds of it. -/
structure Of (n room : Nat) (ts : List Nat) (st : St) : Prop where
  n' : st.n = n
  room' : st.room = room
  ord : st.ord = List.range n
  ns : st.ns = nsOf n ts
  given : st.given = ts.length
  inv : Inv st
  cl : Clean st
  hs : st.hs = (List.range ts.length).map (· + 1) ++ List.replicate (30 - ts.length) 0
  len : st.ns.length ≤ 63 * ts.length
  tabs : ∀ i (h : i < ts.length), st.live (i + 1) ∧ st.tab (i + 1) = ts[i]
  eq : st = stOf n room ts

theorem of_free {n room : Nat} {ts : List Nat} {st : St} (h : Of n room ts st) (hk : ts.length < 30) : st.free = ts.length := by
  have hl : st.hs.length = 30 := by rw [h.hs]; simp; omega
  unfold St.free
  apply idx_first (by omega)
  · simp only [h.hs]
    rw [List.getElem_append_right (by simp)]; simp
  · intro j hj hjk
    simp only [h.hs]
    rw [List.getElem_append_left (by simpa using hjk)]; simp
theorem of_empty (n room : Nat) (h1 : 1 ≤ n) (h6 : n ≤ 6) : Of n room [] (St.empty n room) :=
  ⟨rfl, rfl, rfl, rfl, rfl, inv_empty n room h1 h6, clean_empty n room, by simp [St.empty], by simp [St.empty], fun i h => absurd h (by simp), rfl⟩
theorem of_snoc {n room : Nat} {ts : List Nat} {st : St} {t : Nat} (h : Of n room ts st) (hk : ts.length < 30) (ht : Tab n t) : Of n room (ts ++ [t]) (st.added t) := by
  have hn := h.n'
  subst hn
  have hf := of_free h hk
  have ha := added h.inv ht (by rw [hf]; exact hk)
  refine ⟨rfl, h.room', h.ord, ?_, by simp [St.added, h.given], ha.inv, clean_added h.inv h.cl t (by rw [hf]; exact hk), ?_, by have := ha.len; have := h.len; simp only [List.length_append, List.length_cons, List.length_nil]; omega, ?_, by rw [stOf_snoc, ← h.eq]⟩
  · rw [nsOf_snoc, ← h.ns, ← h.ord]; rfl
  · simp only [St.added]
    rw [hf, h.given, h.hs, List.set_append_right _ _ (by simp)]
    simp only [List.length_map, List.length_range, Nat.sub_self, List.length_append, List.length_cons, List.length_nil]
    rw [show 30 - ts.length = (30 - (ts.length + 1)) + 1 from by omega, List.replicate_succ]
    simp [List.range_succ]
  · intro i hi
    by_cases hik : i < ts.length
    · obtain ⟨a, b⟩ := h.tabs i hik
      obtain ⟨c, _, d⟩ := ha.old _ a
      exact ⟨c, by rw [d, b, List.getElem_append_left hik]⟩
    · obtain rfl : i = ts.length := by simp at hi; omega
      have e : st.given + 1 = ts.length + 1 := by rw [h.given]
      refine ⟨by rw [← e]; exact ha.new, ?_⟩
      rw [← e, ha.tab]; simp
theorem of_added_ns {n room : Nat} {ts : List Nat} {st : St} {t : Nat} (h : Of n room ts st) : (st.added t).ns = nsOf n (ts ++ [t]) := by
  rw [nsOf_snoc, ← h.ns, ← h.ord]; rfl

/-- Since the world w0, in which there were B blocks: in block s lies a store of n variables and this room, in which the functions of these tables have been made. -/
structure Mk (B : Nat) (w0 w : World) (s n room : Nat) (ts : List Nat) : Prop where
  lo : B ≤ s
  bel : Below B w0 w
  ex : ∃ st, StoreAt w s st ∧ Of n room ts st
theorem Mk.size {B : Nat} {w0 w : World} {s n room : Nat} {ts : List Nat} (h : Mk B w0 w s n room ts) : s < w.heap.size := by
  obtain ⟨st, h1, _⟩ := h.ex
  obtain ⟨_, _, _, _, hb, _⟩ := h1.ex
  exact lt_of_block hb
theorem Mk.blk {B : Nat} {w0 w : World} {s n room : Nat} {ts : List Nat} (h : Mk B w0 w s n room ts) : ∃ cur, w.heap[s]? = some (.cells cur 93 (0, 0)) := by
  obtain ⟨st, h1, _⟩ := h.ex
  obtain ⟨_, _, _, _, hb, _⟩ := h1.ex
  exact ⟨_, hb⟩
theorem Mk.cols {B : Nat} {w0 w : World} {s n room : Nat} {ts : List Nat} (h : Mk B w0 w s n room ts) : Cols w := by
  obtain ⟨st, h1, _⟩ := h.ex; exact h1.cols
theorem Mk.has {B : Nat} {w0 w : World} {s n room : Nat} {ts : List Nat} (h : Mk B w0 w s n room ts) (hk : ts.length ≤ 30) : ∃ st, Has w s st ∧ Of n room ts st := by
  obtain ⟨st, h1, h2⟩ := h.ex
  exact ⟨st, ⟨h1, h2.inv, by have := h2.len; omega⟩, h2⟩

theorem mk_new (B : Nat) (w0 w : World) (n room : Nat) (hB : B ≤ w.heap.size) (hb : Below B w0 w) (h1 : 1 ≤ n) (h6 : n ≤ 6) (hr1 : 1 ≤ room) (hr4 : room ≤ 4000) (hc : Cols w) :
    Calls Tryd.prog 29 #[.int .i64 n, .int .i64 room] w fun e w' => ∃ s, e = .returned (.tuple #[.pointer (some ⟨s, 0, none⟩), .int .i64 0]) ∧ Mk B w0 w' s n room [] ∧ Below w.heap.size w w' := by
  refine (new_calls n room w h1 h6 hr1 hr4 hc).mono ?_
  rintro e w' ⟨s, rfl, hst, hs, hbel⟩
  exact ⟨s, rfl, ⟨by omega, hb.trans (hbel.mono hB), _, hst, of_empty n room h1 h6⟩, hbel⟩

set_option maxHeartbeats 400000 in
theorem make_walk (s t : Nat) (st : St) (w : World) (h : Has w s st) (hf : st.free < 30) (ht : Tab st.n t) (hg : st.given + 1 < 4294967295) :
    Calls Tryd.prog 16 #[.pointer (some ⟨s, 0, none⟩), .int .u64 t] w fun e w' =>
      (st.room < (st.added t).ns.length → e = .returned (.tuple #[.int .u32 0, .int .i64 4]) ∧ StoreAt w' s st) ∧
      ((st.added t).ns.length ≤ st.room → e = .returned (.tuple #[.int .u32 (st.given + 1 : Nat), .int .i64 0]) ∧ StoreAt w' s (st.added t)) ∧ w.grownBy w' (some s) := by
  have H : Hid (Has w s st) := h
  have h0 : w.cell? ⟨s, 0, none⟩ = some (.int .i64 (st.n : Nat)) := by obtain ⟨_, _, _, _, hb, _⟩ := h.lies.ex; exact cell_of_block hb 0
  have hle : ¬ ((full st.n : Nat) : Int) < (t : Int) := by have : t < 2 ^ 2 ^ st.n := ht; unfold full; omega
  have hn := h.inv.n6
  clear h
  go_enter Tryd.func16, Tryd.ntmps16
  go_wp2_with fail
  refine (sfull_calls s st.n _ h0 hn).mono ?_
  rintro e w1 ⟨rfl, rfl⟩
  go_wp2_with fail
  refine (add_walk s t st _ H.out.lies hf (ht.u64 hn) H.out.few hg).mono ?_
  by_cases hr : st.room < (st.added t).ns.length
  · rintro e w2 ⟨a1, _, a3⟩
    obtain ⟨rfl, a1'⟩ := a1 hr
    have A1 : Hid (StoreAt w2 s st ∧ w1.grownBy w2 (some s)) := ⟨a1', a3⟩
    have HRR : Hid (st.room < (st.added t).ns.length) := hr
    clear a1' a1 a3 hr
    go_wp2_with fail
    go_ret2
    exact ⟨fun _ => ⟨rfl, A1.out.1⟩, fun h => absurd h (by have := HRR.out; omega), A1.out.2⟩
  · rintro e w2 ⟨_, a2, a3⟩
    obtain ⟨rfl, a2'⟩ := a2 (Nat.le_of_not_lt hr)
    have A1 : Hid (StoreAt w2 s (st.added t) ∧ w1.grownBy w2 (some s)) := ⟨a2', a3⟩
    have HRR : Hid (¬ st.room < (st.added t).ns.length) := hr
    clear a2' a2 a3 hr
    go_wp2_with fail
    go_ret2
    exact ⟨fun h => absurd h HRR.out, fun _ => ⟨rfl, A1.out.1⟩, A1.out.2⟩

theorem mk_below {B : Nat} {w0 w w' : World} {s n room : Nat} {ts : List Nat} (h : Mk B w0 w s n room ts) (hg : w.grownBy w' (some s)) : Below B w0 w' :=
  h.bel.grown hg (by have := h.lo; have := h.size; omega) (fun k hk => by simp at hk; have := h.lo; omega)

theorem mk_make (B : Nat) (w0 w : World) (s n room t : Nat) (ts : List Nat) (k : Int) (h : Mk B w0 w s n room ts) (hk : k = ts.length + 1) (hl : ts.length < 30) (ht : Tab n t) (hroom : (nsOf n (ts ++ [t])).length ≤ room) :
    Calls Tryd.prog 16 #[.pointer (some ⟨s, 0, none⟩), .int .u64 t] w fun e w' => e = .returned (.tuple #[.int .u32 k, .int .i64 0]) ∧ Mk B w0 w' s n room (ts ++ [t]) ∧ w.grownBy w' (some s) := by
  obtain ⟨st, hst, hof⟩ := h.has (by omega)
  have hn := hof.n'
  subst hn
  have hf := of_free hof hl
  refine (make_walk s t st w hst (by rw [hf]; exact hl) ht (by rw [hof.given]; omega)).mono ?_
  rintro e w' ⟨_, h2, h3⟩
  obtain ⟨rfl, h4⟩ := h2 (by rw [of_added_ns hof, hof.room']; exact hroom)
  exact ⟨by rw [hof.given, hk]; rfl, ⟨h.lo, mk_below h h3, _, h4, of_snoc hof hl ht⟩, h3⟩

theorem mk_refused (B : Nat) (w0 w : World) (s n room t : Nat) (ts : List Nat) (h : Mk B w0 w s n room ts) (hl : ts.length < 30) (ht : Tab n t) (hroom : room < (nsOf n (ts ++ [t])).length) :
    Calls Tryd.prog 16 #[.pointer (some ⟨s, 0, none⟩), .int .u64 t] w fun e w' => e = .returned (.tuple #[.int .u32 0, .int .i64 4]) ∧ Mk B w0 w' s n room ts ∧ w.grownBy w' (some s) := by
  obtain ⟨st, hst, hof⟩ := h.has (by omega)
  have hn := hof.n'
  subst hn
  have hf := of_free hof hl
  refine (make_walk s t st w hst (by rw [hf]; exact hl) ht (by rw [hof.given]; omega)).mono ?_
  rintro e w' ⟨h1, _, h3⟩
  obtain ⟨rfl, h4⟩ := h1 (by rw [of_added_ns hof, hof.room']; exact hroom)
  exact ⟨rfl, ⟨h.lo, mk_below h h3, _, h4, hof⟩, h3⟩

set_option maxHeartbeats 400000 in
theorem used_calls (s : Nat) (st : St) (w : World) (h : StoreAt w s st) :
    Calls Tryd.prog 26 #[.pointer (some ⟨s, 0, none⟩)] w fun e w' => e = .returned (.int .i64 (st.ns.length : Nat)) ∧ w' = w := by
  obtain ⟨go, capo, nv, B, hb, ho, hcur, hcap, hr⟩ := h.ex
  obtain ⟨ao, cap, rfl⟩ := owns_slice hr
  have d1 : w.cell? ⟨s, 63 + 1, none⟩ = some (.slice ao st.ns.length cap) := (cell_of_block hb 64).trans (by rw [List.getElem?_toArray, at_64 h.hs30 h.rs30])
  have HD : Hid (w.cell? ⟨s, 63 + 1, none⟩ = some (.slice ao st.ns.length cap)) := d1
  clear h hb ho hcur hr d1
  go_enter Tryd.func26, Tryd.ntmps26
  go_wp2_with fail
  refine (nodes_calls s 63 _ cap ao _ HD.out).mono ?_
  rintro e w1 ⟨rfl, rfl⟩
  go_wp2_with fail
  go_ret
  exact ⟨rfl, rfl⟩

theorem mk_used (B : Nat) (w0 w : World) (s n room : Nat) (ts : List Nat) (h : Mk B w0 w s n room ts) :
    Calls Tryd.prog 26 #[.pointer (some ⟨s, 0, none⟩)] w fun e w' => e = .returned (.int .i64 ((nsOf n ts).length : Nat)) ∧ w' = w := by
  obtain ⟨st, h1, h2⟩ := h.ex
  rw [← h2.ns]
  exact used_calls s st w h1
end Go.Proofs.YthoodkbdpnffdaaDoor

/-
  Own work: 'filled' makes the functions of a slice's first twenty tables (a walk).
-/
namespace Go.Proofs.YthoodkbdpnffdaaDoor
open Go.RowKit
open Cho (U64 Tab full col Nd Red)

/-- A slice of numbers of 64 bits that lay there in the world w0. -/
def SlU (w0 : World) (ao : Option Addr) (l : List Nat) : Prop := ∀ i (hi : i < l.length), ∃ g o, ao = some ⟨g, o, none⟩ ∧ g < w0.heap.size ∧ w0.cell? ⟨g, o + i, none⟩ = some (.int .u64 (l[i] : Nat))
/-- The tables that are made: the first twenty, cut. -/
def tabsOf (n : Nat) (l : List Nat) : List Nat := (l.take 20).map fun t => cutT t n
theorem tabsOf_len (n : Nat) (l : List Nat) : (tabsOf n l).length = min 20 l.length := by simp [tabsOf]
theorem tabsOf_get (n : Nat) (l : List Nat) (i : Nat) (h : i < l.length) (h20 : i < 20) : (tabsOf n l)[i]? = some (cutT l[i] n) := by
  simp [tabsOf, h20, h]
theorem take_snoc (l : List Nat) (k : Nat) (x : Nat) (h : l[k]? = some x) : l.take (k + 1) = l.take k ++ [x] := by
  rw [List.take_add_one, h]; rfl
theorem nsOf_small (n : Nat) (hn : n ≤ 6) (ts : List Nat) : (nsOf n ts).length ≤ 63 * ts.length := by
  suffices h : ∀ us : List Nat, ∀ vs : List Nat, (nsOf n vs).length ≤ 63 * vs.length → (nsOf n (vs ++ us)).length ≤ 63 * (vs ++ us).length by
    have := h ts [] (by simp [nsOf]); simpa using this
  intro us
  induction us with
  | nil => intro vs h; simpa using h
  | cons u us ih =>
    intro vs h
    have e : vs ++ u :: us = (vs ++ [u]) ++ us := by simp
    rw [e]
    apply ih
    rw [nsOf_snoc]
    have hb := Cho.build_len (List.range n) u (nsOf n vs)
    have hp := Cho.two_pow_le n hn
    simp only [List.length_range] at hb
    simp only [List.length_append, List.length_cons, List.length_nil]
    omega
theorem Tryd.infoHandle : (Tryd.prog.info? 30).map (fun i => (i.zero, i.size, i.bytes)) = some (some (.int .u32 0), 1, 4) := by kernel_rfl
theorem hrow_kept {w w' : World} {B s n : Nat} {v : Value} {xs : List Value} (h : w.ownsRow B 30 1 v n xs) (hg : w.grownBy w' (some s)) (hS : ∃ cur, w.heap[s]? = some (.cells cur 93 (0, 0))) : w'.ownsRow B 30 1 v n xs := by
  obtain ⟨cs, hcs⟩ := hS
  refine owns_kept h fun g hgb => ?_
  have hlt := (h.lt g hgb).2
  refine hg.block g hlt ?_
  intro e
  simp only [Option.some.injEq] at e
  subst e
  obtain ⟨_, ⟨rfl, _⟩ | ⟨g', cap, cur, rfl, _, h2, _⟩⟩ := h
  · simp [Value.ownBlock] at hgb
  · obtain rfl : g' = g := by simpa [Value.ownBlock] using hgb
    rw [hcs] at h2; simp at h2

/-- A store stays what it is where a row of handles grows. -/
theorem mk_row {B : Nat} {w0 w w' : World} {s n room : Nat} {ts : List Nat} {o : Obj} {v : Value} {k : Nat} {xs : List Value} (h : Mk B w0 w s n room ts) (hr : w.ownsRow B 30 1 v k xs) (hg : (w.alloc o).grownBy w' v.ownBlock) (hpos : 0 < B) :
    Mk B w0 w' s n room ts := by
  obtain ⟨st, hst, hof⟩ := h.ex
  have hsz := h.size
  have hlo := h.lo
  obtain ⟨hp, ⟨go, capo, nv, B', hb, ho, ⟨cur, hcur⟩, hcap, hrow⟩, h1, h2, h3, h4, h5, h6, h7, hc⟩ := hst
  have hne : ∀ (q : Nat) (c : Array Value) (T : TypeId), w.heap[q]? = some (.cells c T (0, 0)) → T ≠ 30 → some q ≠ v.ownBlock := by
    intro q c T hq hT e
    obtain ⟨_, ⟨rfl, _⟩ | ⟨g', cap, cu, rfl, _, h2, _⟩⟩ := hr
    · simp [Value.ownBlock] at e
    · obtain rfl : q = g' := by simpa [Value.ownBlock] using e
      rw [hq] at h2; simp at h2; exact hT h2.2
  have kept : ∀ (q : Nat) (c : Array Value) (T : TypeId), w.heap[q]? = some (.cells c T (0, 0)) → T ≠ 30 → w'.heap[q]? = w.heap[q]? := fun q c T hq hT =>
    (hg.block q (by have := lt_of_block hq; simp; omega) (hne q c T hq hT)).trans (Below.heap_alloc _ _ _ (lt_of_block hq))
  refine ⟨hlo, ?_, st, ⟨hp, ⟨go, capo, nv, B', (kept s _ _ hb (by decide)).trans hb, ?_, ⟨cur, (kept go _ _ hcur (by decide)).trans hcur⟩, hcap, ?_⟩, h1, h2, h3, h4, h5, h6, h7, ?_⟩, hof⟩
  · exact (h.bel.alloc (by omega) o).grown hg (by simp; omega) (fun q hq => (hr.lt q hq).1)
  · exact fun i hi => (World.cell?_of_block (a := ⟨go, i, none⟩) (kept go _ _ hcur (by decide))).trans (ho i hi)
  · refine owns_kept hrow fun g hgb => ?_
    obtain ⟨_, ⟨rfl, _⟩ | ⟨g', cap, cu, rfl, _, h2, _⟩⟩ := hrow
    · simp [Value.ownBlock] at hgb
    · obtain rfl : g' = g := by simpa [Value.ownBlock] using hgb
      exact kept g' _ _ h2 (by decide)
  · intro i hi
    have h0 : w'.heap[0]? = w.heap[0]? := (hg.block 0 (by simp) (fun e => by have := (hr.lt 0 e.symm).1; omega)).trans (Below.heap_alloc _ _ _ (cols_pos hc))
    exact (World.cell?_of_block (a := ⟨0, i, none⟩) h0).trans (hc i hi)

set_option maxRecDepth 100000 in
set_option maxHeartbeats 1000000 in
theorem filled_calls (n cap : Nat) (ao : Option Addr) (l : List Nat) (w : World) (h1 : 1 ≤ n) (h6 : n ≤ 6) (hc : Cols w) (hl : SlU w ao l) (hu : ∀ t ∈ l, U64 t) (hll : l.length ≤ 9223372036854775807) :
    Calls Tryd.prog 24 #[.int .i64 n, .slice ao l.length cap] w fun e w' => ∃ s hv', e = .returned (.tuple #[.pointer (some ⟨s, 0, none⟩), hv', .bool true]) ∧ Mk w.heap.size w w' s n 4000 (tabsOf n l) ∧
      w'.ownsRow w.heap.size 30 1 hv' (tabsOf n l).length (hv ((List.range (tabsOf n l).length).map (· + 1))) := by
  obtain ⟨i0, hi, hz0, hz1, hz2⟩ := info_parts Tryd.infoHandle
  have HL : Hid (SlU w ao l) := hl
  have HU : Hid (∀ t ∈ l, U64 t) := hu
  have HC : Hid (Cols w) := hc
  have hpos := cols_pos hc
  clear hl hu hc
  go_enter Tryd.func24, Tryd.ntmps24
  go_wp2_with fail
  refine (store_calls n _ h1 h6 HC.out).mono ?_
  rintro e w1 ⟨s, rfl, hst, hs, hb1⟩
  have F1 : Hid (Mk w.heap.size w w1 s n 4000 []) := ⟨hs, hb1, _, hst.lies, of_empty n 4000 h1 h6⟩
  clear hst hb1 HC
  have HLEN : Hid ((tabsOf n l).length = min 20 l.length) := tabsOf_len n l
  have hle20 : (tabsOf n l).length ≤ 20 := by rw [HLEN.out]; omega
  have hlel : (tabsOf n l).length ≤ l.length := by rw [HLEN.out]; omega
  go_wp2_with fail
  go_loopw [9, 10] (fun x9 x10 wr => ∃ k : Nat, k ≤ (tabsOf n l).length ∧ x10 = .int .i64 k ∧ Hid (Mk w.heap.size w wr s n 4000 ((tabsOf n l).take k)) ∧ Hid (wr.ownsRow w.heap.size 30 1 x9 k (hv ((List.range k).map (· + 1)))))
    (fun _ x10 _ => (tabsOf n l).length - (intOf x10).toNat)
  case atStart => exact ⟨0, Nat.zero_le _, rfl, F1, World.ownsRow_nil _ _ _ _⟩
  case round =>
    obtain ⟨k, hk, rfl, FR, OR⟩ := hrel
    clear F1
    obtain ⟨ah, caph, rfl⟩ := owns_slice OR.out
    by_cases hkl : k < (tabsOf n l).length
    · have hk20 : k < 20 := by omega
      have hkll : k < l.length := by omega
      obtain ⟨g, o, hao, hg, hcell⟩ := HL.out k hkll
      have e1 : wr.cell? ⟨g, o + k, none⟩ = some (.int .u64 (l[k] : Nat)) := (FR.out.bel.cell (p := ⟨g, o + k, none⟩) hg).trans hcell
      have ut := HU.out l[k] (List.getElem_mem hkll)
      have HT : Hid ((tabsOf n l).take (k + 1) = (tabsOf n l).take k ++ [cutT l[k] n]) := take_snoc _ _ _ (tabsOf_get n l k hkll hk20)
      have hL : ((tabsOf n l).take k).length = k := by simp; omega
      have HLK : Hid (((tabsOf n l).take k).length = k) := hL
      clear hcell hL
      generalize l[k] = t at *
      generalize hts : (tabsOf n l).take k = ts at *
      clear hts
      have TT : Hid (Tab n (cutT t n)) := cut_tab t n
      subst hao
      go_wp2_with fail
      refine (cut_calls t n _ ut h6).mono ?_
      rintro e w3 ⟨rfl, rfl⟩
      generalize cutT t n = T at *
      have hroom : Hid ((nsOf n (ts ++ [T])).length ≤ 4000) := by
        have := nsOf_small n h6 (ts ++ [T])
        have := HLK.out
        simp only [List.length_append, List.length_cons, List.length_nil] at *
        show (nsOf n (ts ++ [T])).length ≤ 4000
        omega
      go_wp2_with fail
      refine (mk_make _ _ _ s n 4000 T ts (k + 1) FR.out (by rw [HLK.out]) (by rw [HLK.out]; omega) TT.out hroom.out).mono ?_
      rintro e w4 ⟨rfl, f4, g4⟩
      have F4 : Hid (Mk w.heap.size w w4 s n 4000 (ts ++ [T])) := f4
      have O4 : Hid (w4.ownsRow w.heap.size 30 1 (.slice ah k caph) k (hv ((List.range k).map (· + 1)))) := hrow_kept OR.out g4 FR.out.blk
      clear f4 g4 FR OR
      have hw4 : w.heap.size ≤ w4.heap.size := F4.out.bel.size
      have F1' : Hid (k + 1 ≤ maxLen) := by show k + 1 ≤ maxLen; unfold maxLen; omega
      have F2' : Hid ((k + 1) * 4 ≤ 140737488355328) := by show (k + 1) * 4 ≤ 140737488355328; omega
      have F3' : Hid (w.heap.size ≤ (w4.alloc (.cells #[.int .u32 ((k : Int) + 1)] 30)).heap.size) := by show w.heap.size ≤ (w4.alloc (.cells #[.int .u32 ((k : Int) + 1)] 30)).heap.size; simp; omega
      have O5 : Hid ((w4.alloc (.cells #[.int .u32 ((k : Int) + 1)] 30)).ownsRow w.heap.size 30 1 (.slice ah k caph) k (hv ((List.range k).map (· + 1)))) := O4.out.alloc _
      go_wp2_with (at_builtin; refine wpList_append_own _ rfl (.tmp 43) (.tmp 45) 50 rfl w.heap.size 30 i0 _ 1 4 Tryd.underlying50 hi hz0 hz1 hz2 rfl (Nat.succ_pos 0) (.slice ah k caph) k (hv ((List.range k).map (· + 1))) ?e1 O5.out ⟨w4.heap.size, 0, none⟩ 1 1 [.int .u32 ((k : Int) + 1)] ?e2 rfl (new_cells w4 [.int .u32 ((k : Int) + 1)] _) ?e3 F1'.out F2'.out F3'.out ?_; (case e1 => rfl); (case e2 => rfl); (case e3 => simp [Value.oneCell']); intro v' w5 hown hgrow _; obtain ⟨ao2, cap2, rfl⟩ := owns_slice hown; have G5 : Hid _ := hgrow; have OW5 : Hid _ := hown; clear hgrow hown)
      refine ⟨⟨k + 1, hkl, by go_num, ?_, ?_⟩, by simp [intOf]; omega⟩
      · show Mk w.heap.size w w5 s n 4000 ((tabsOf n l).take (k + 1))
        rw [HT.out]
        exact mk_row F4.out O4.out G5.out hpos
      · have e : hv ((List.range k).map (· + 1)) ++ [.int .u32 ((k : Int) + 1)] = hv ((List.range (k + 1)).map (· + 1)) := by simp [hv, List.range_succ]
        have := OW5.out
        rw [e] at this
        exact this
    · have HEK : Hid (k = (tabsOf n l).length) := by show k = (tabsOf n l).length; omega
      have FE : Hid (Mk w.heap.size w wr s n 4000 (tabsOf n l)) := by
        have := FR.out; rw [List.take_of_length_le (by omega)] at this; exact this
      have OE : Hid (wr.ownsRow w.heap.size 30 1 (.slice ah k caph) (tabsOf n l).length (hv ((List.range (tabsOf n l).length).map (· + 1)))) := by
        have := OR.out; rw [← HEK.out]; exact this
      clear FR OR HL
      by_cases hlt : k < l.length
      · have h20 : ¬ ((k : Int) < 20) := by have := HLEN.out; have := HEK.out; omega
        go_wp2_with fail
        go_ret3
        exact ⟨s, _, rfl, FE.out, OE.out⟩
      · go_wp2_with fail
        go_ret3
        exact ⟨s, _, rfl, FE.out, OE.out⟩
end Go.Proofs.YthoodkbdpnffdaaDoor
