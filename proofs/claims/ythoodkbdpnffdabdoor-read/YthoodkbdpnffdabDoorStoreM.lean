/-
  Own work: what the store's inner calls do to a store in memory (walks): full, root, add.
-/
import Derived.Test.YthoodkbdpnffdabDoorStoreW
import Derived.Test.YthoodkbdpnffdabDoorSaysW
namespace Go.Proofs.YthoodkbdpnffdabDoor
open Go.RowKit
open Cho (U64 Tab full col Nd)

theorem getD_at {l : List Nat} {k : Nat} (h : k < l.length) : l.getD k 0 = l[k] := by simp [List.getD, h]
theorem grown_of_below {w w' : World} {r : Option Nat} (h : Below w.heap.size w w') : w.grownBy w' r := ⟨h.os, h.tape, h.output, h.size, fun k hk _ => h.block k hk⟩
theorem grown_refl (w : World) (r : Option Nat) : w.grownBy w r := ⟨rfl, rfl, rfl, Nat.le_refl _, fun _ _ _ => rfl⟩
theorem grown_trans {a b c : World} {r : Option Nat} (h : a.grownBy b r) (k : b.grownBy c r) : a.grownBy c r :=
  ⟨k.os.trans h.os, k.tape.trans h.tape, k.output.trans h.output, Nat.le_trans h.size k.size, fun i hi hr => (k.block i (Nat.lt_of_lt_of_le hi h.size) hr).trans (h.block i hi hr)⟩
theorem grown_set {a b : World} {s j : Nat} {v : Value} (h : a.grownBy b (some s)) : a.grownBy (b.setCell ⟨s, j, none⟩ v) (some s) :=
  ⟨h.os, h.tape, h.output, by simp [World.setCell]; exact h.size, fun i hi hr => (block_set_other (by intro e; exact hr (by rw [e]))).trans (h.block i hi hr)⟩

theorem cols_pos {w : World} (h : Cols w) : 0 < w.heap.size := World.block_lt_of_cell? w _ (h 0 (by decide))
theorem Cols.grown {w w' : World} {r : Option Nat} (h : Cols w) (hg : w.grownBy w' r) (hr : some 0 ≠ r) : Cols w' :=
  fun i hi => (World.cell?_of_block (a := ⟨0, i, none⟩) (hg.block 0 (cols_pos h) hr)).trans (h i hi)

/-- A store stays what it is where another block is written, and none of its own. -/
theorem StoreAt.kept {w w' : World} {t s : Nat} {st : St} (h : StoreAt w t st) (hg : w.grownBy w' (some s)) (hs : 0 < s) (hne : t ≠ s) (hS : ∃ cur, w.heap[s]? = some (.cells cur 53 (0, 0))) : StoreAt w' t st := by
  obtain ⟨hp, ⟨go, capo, nv, B, hb, ho, ⟨cur, hcur⟩, hcap, hr⟩, h1, h2, h3, h4, h5, h6, h7, hc⟩ := h
  obtain ⟨cs, hcs⟩ := hS
  have kept : ∀ k o, w.heap[k]? = some o → k ≠ s → w'.heap[k]? = w.heap[k]? := fun k o hk hks => hg.block k (lt_of_block hk) (by simpa using hks)
  have hgo : go ≠ s := by rintro rfl; rw [hcur] at hcs; simp at hcs
  refine ⟨hp, ⟨go, capo, nv, B, (kept t _ hb hne).trans hb, ?_, ⟨cur, (kept go _ hcur hgo).trans hcur⟩, hcap, ?_⟩, h1, h2, h3, h4, h5, h6, h7, hc.grown hg (by simp; omega)⟩
  · exact fun i hi => (World.cell?_of_block (a := ⟨go, i, none⟩) (kept go _ hcur hgo)).trans (ho i hi)
  · refine owns_kept hr fun g hgb => ?_
    obtain ⟨_, ⟨rfl, _⟩ | ⟨g', cap, cu, rfl, _, h2, _⟩⟩ := hr
    · simp [Value.ownBlock] at hgb
    · obtain rfl : g' = g := by simpa [Value.ownBlock] using hgb
      exact kept g' _ h2 (by rintro rfl; rw [h2] at hcs; simp at hcs)
theorem StoreAt.kept0 {w w' : World} {t : Nat} {st : St} (h : StoreAt w t st) (hg : w.grownBy w' none) : StoreAt w' t st := by
  obtain ⟨hp, ⟨go, capo, nv, B, hb, ho, ⟨cur, hcur⟩, hcap, hr⟩, h1, h2, h3, h4, h5, h6, h7, hc⟩ := h
  have kept : ∀ k o, w.heap[k]? = some o → w'.heap[k]? = w.heap[k]? := fun k o hk => hg.block k (lt_of_block hk) (by simp)
  refine ⟨hp, ⟨go, capo, nv, B, (kept t _ hb).trans hb, ?_, ⟨cur, (kept go _ hcur).trans hcur⟩, hcap, ?_⟩, h1, h2, h3, h4, h5, h6, h7, hc.grown hg (by simp)⟩
  · exact fun i hi => (World.cell?_of_block (a := ⟨go, i, none⟩) (kept go _ hcur)).trans (ho i hi)
  · exact owns_kept hr fun g hgb => hg.block g (hr.lt g hgb).2 (by simp)
theorem StoreAt.below {w w' : World} {t : Nat} {st : St} (h : StoreAt w t st) (hb : Below w.heap.size w w') : StoreAt w' t st := h.kept0 (grown_of_below hb)

set_option maxHeartbeats 400000 in
theorem root_yes (s a : Nat) (st : St) (w : World) (h : StoreAt w s st) (hl : st.slot a < 30) :
    Calls Tryd.prog 19 #[.pointer (some ⟨s, 0, none⟩), .int .u32 a] w fun e w' => e = .returned (.tuple #[.int .i64 (st.rs.getD (st.slot a) 0 : Nat), .int .i64 0]) ∧ w' = w := by
  obtain ⟨go, capo, nv, B, hb, -⟩ := h.ex
  have hr : w.cell? ⟨s, 33 + st.slot a, none⟩ = some (.int .i64 (st.rs.getD (st.slot a) 0 : Nat)) := by
    rw [cell_of_block hb, List.getElem?_toArray, at_r h.hs30 h.rs30 _ hl, getD_at (by rw [h.rs30]; exact hl)]
  have hslot := slot_calls s a st _ nv w hb h.hs30
  rw [ixOr_lt hl] at hslot
  have HS : Hid (Calls Tryd.prog 27 #[.pointer (some ⟨s, 0, none⟩), .int .u32 a] w fun e w' => e = .returned (.int .i64 (st.slot a : Nat)) ∧ w' = w) := hslot
  clear hslot h hb
  generalize st.slot a = k at *
  generalize st.rs.getD k 0 = r at *
  go_enter Tryd.func19, Tryd.ntmps19
  go_wp2_with fail
  refine HS.out.mono ?_
  rintro e w1 ⟨rfl, rfl⟩
  go_wp2_with fail
  go_ret2
  exact ⟨rfl, rfl⟩

set_option maxHeartbeats 400000 in
theorem root_no (s a : Nat) (st : St) (w : World) (h : StoreAt w s st) (hl : ¬ st.slot a < 30) :
    Calls Tryd.prog 19 #[.pointer (some ⟨s, 0, none⟩), .int .u32 a] w fun e w' => e = .returned (.tuple #[.int .i64 0, .int .i64 2]) ∧ w' = w := by
  obtain ⟨go, capo, nv, B, hb, -⟩ := h.ex
  have hslot := slot_calls s a st _ nv w hb h.hs30
  rw [ixOr_ge hl] at hslot
  have HS : Hid (Calls Tryd.prog 27 #[.pointer (some ⟨s, 0, none⟩), .int .u32 a] w fun e w' => e = .returned (.int .i64 (-1)) ∧ w' = w) := hslot
  clear hslot h hb
  go_enter Tryd.func19, Tryd.ntmps19
  go_wp2_with fail
  refine HS.out.mono ?_
  rintro e w1 ⟨rfl, rfl⟩
  go_wp2_with fail
  go_ret2
  exact ⟨rfl, rfl⟩
end Go.Proofs.YthoodkbdpnffdabDoor
