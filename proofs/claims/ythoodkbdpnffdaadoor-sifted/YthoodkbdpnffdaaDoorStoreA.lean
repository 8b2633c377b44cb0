/-
  Own work: how a store lies in memory, and what a load from it or a store into it gives.
-/
import Derived.Test.YthoodkbdpnffdaaDoorWithW
import Derived.Deep.MidRow
namespace Go.Proofs.YthoodkbdpnffdaaDoor
open Go.RowKit
open Cho (U64 Tab full col Nd)

/-- A store, plainly: its variables and room, the newest handle, the slots (handles, links), its nodes. Its order is ord. -/
structure St where
  n : Nat
  room : Nat
  given : Nat
  hs : List Nat
  rs : List Nat
  ord : List Nat
  ns : List Nd

def hv (hs : List Nat) : List Value := hs.map fun h : Nat => .int .u32 (h : Int)
def lv (rs : List Nat) : List Value := rs.map fun r : Nat => .int .i64 (r : Int)
def cellsOf (st : St) (ov nv : Value) : List Value :=
  .int .i64 st.n :: .int .i64 st.room :: .int .u32 st.given :: (hv st.hs ++ (lv st.rs ++ [ov, nv]))

theorem hv_len (l : List Nat) : (hv l).length = l.length := by simp [hv]
theorem lv_len (l : List Nat) : (lv l).length = l.length := by simp [lv]
theorem hv_set (l : List Nat) (i h : Nat) : (hv l).set i (.int .u32 h) = hv (l.set i h) := by simp [hv, List.map_set]
theorem lv_set (l : List Nat) (i h : Nat) : (lv l).set i (.int .i64 h) = lv (l.set i h) := by simp [lv, List.map_set]

section
variable {st : St} {ov nv : Value}
theorem at_h (h30 : st.hs.length = 30) (i : Nat) (hi : i < 30) : (cellsOf st ov nv)[3 + i]? = some (.int .u32 (st.hs[i]'(by omega) : Nat)) := by
  have e : 3 + i = (i + 1 + 1) + 1 := by omega
  rw [e]
  simp only [cellsOf, List.getElem?_cons_succ]
  rw [List.getElem?_append_left (by simp [hv]; omega)]
  simp [hv, h30, hi]
theorem at_r (h30 : st.hs.length = 30) (r30 : st.rs.length = 30) (i : Nat) (hi : i < 30) : (cellsOf st ov nv)[33 + i]? = some (.int .i64 (st.rs[i]'(by omega) : Nat)) := by
  have e : 33 + i = (30 + i + 1 + 1) + 1 := by omega
  rw [e]
  simp only [cellsOf, List.getElem?_cons_succ]
  rw [List.getElem?_append_right (by simp [hv]; omega), List.getElem?_append_left (by simp [hv, lv]; omega)]
  simp [hv, lv, h30, r30, hi]
theorem at_63 (h30 : st.hs.length = 30) (r30 : st.rs.length = 30) : (cellsOf st ov nv)[63]? = some ov := by
  simp only [cellsOf, List.getElem?_cons_succ]
  rw [List.getElem?_append_right (by simp [hv]; omega), List.getElem?_append_right (by simp [hv, lv]; omega)]
  simp [hv, lv, h30, r30]
theorem at_64 (h30 : st.hs.length = 30) (r30 : st.rs.length = 30) : (cellsOf st ov nv)[64]? = some nv := by
  simp only [cellsOf, List.getElem?_cons_succ]
  rw [List.getElem?_append_right (by simp [hv]; omega), List.getElem?_append_right (by simp [hv, lv]; omega)]
  simp [hv, lv, h30, r30]
theorem set_2 (g : Nat) : (cellsOf st ov nv).set 2 (.int .u32 g) = cellsOf { st with given := g } ov nv := rfl
theorem set_h (h30 : st.hs.length = 30) (i g : Nat) (hi : i < 30) : (cellsOf st ov nv).set (3 + i) (.int .u32 g) = cellsOf { st with hs := st.hs.set i g } ov nv := by
  have e : 3 + i = (i + 1 + 1) + 1 := by omega
  rw [e]
  simp only [cellsOf, List.set_cons_succ]
  rw [List.set_append_left _ _ (by simp [hv]; omega), hv_set]
theorem set_r (h30 : st.hs.length = 30) (r30 : st.rs.length = 30) (i g : Nat) (hi : i < 30) : (cellsOf st ov nv).set (33 + i) (.int .i64 g) = cellsOf { st with rs := st.rs.set i g } ov nv := by
  have e : 33 + i = (30 + i + 1 + 1) + 1 := by omega
  rw [e]
  simp only [cellsOf, List.set_cons_succ]
  rw [List.set_append_right _ _ (by simp [hv]; omega), List.set_append_left _ _ (by simp [hv, lv]; omega)]
  rw [show 30 + i - (hv st.hs).length = i from by simp [hv]; omega, lv_set]
theorem set_tail (A B : List Value) (x y x' y' : Value) : ((A ++ (B ++ [x, y])).set (A.length + B.length) x').set (A.length + B.length + 1) y' = A ++ (B ++ [x', y']) := by
  rw [List.set_append_right _ _ (by omega), List.set_append_right _ _ (by omega), show A.length + B.length - A.length = B.length from by omega, show A.length + B.length + 1 - A.length = B.length + 1 from by omega]
  rw [List.set_append_right _ _ (by omega), List.set_append_right _ _ (by omega), show B.length - B.length = 0 from by omega, show B.length + 1 - B.length = 1 from by omega]
  rfl
theorem set_d (h30 : st.hs.length = 30) (r30 : st.rs.length = 30) (ov' nv' : Value) : ((cellsOf st ov nv).set 63 ov').set 64 nv' = cellsOf st ov' nv' := by
  have := set_tail (hv st.hs) (lv st.rs) ov nv ov' nv'
  rw [hv_len, lv_len, h30, r30] at this
  simp only [cellsOf, List.set_cons_succ]
  rw [this]
end

/-- A block of cells behind one store into it. -/
theorem block_set {w : World} {b j : Nat} {l : List Value} {T : TypeId} {x : Value} (h : w.heap[b]? = some (.cells l.toArray T (0, 0))) : (w.setCell ⟨b, j, none⟩ x).heap[b]? = some (.cells (l.set j x).toArray T (0, 0)) := by
  simp only [World.setCell, Array.getElem?_modify, h]; simp

/-- A store lies in block s. -/
structure StoreAt (w : World) (s : Nat) (st : St) : Prop where
  pos : 0 < s
  ex : ∃ go capo nv B, w.heap[s]? = some (.cells (cellsOf st (.slice (some ⟨go, 0, none⟩) st.ord.length capo) nv).toArray 93 (0, 0)) ∧
    OrdAt w go st.ord ∧ (∃ cur, w.heap[go]? = some (.cells cur 3 (0, 0))) ∧ st.ord.length ≤ capo ∧ w.ownsRow B 122 3 nv st.ns.length (flat st.ns)
  hs30 : st.hs.length = 30
  rs30 : st.rs.length = 30
  given : st.given < 4294967295
  n6 : st.n ≤ 6
  ordl : st.ord.length = st.n
  ord6 : ∀ v ∈ st.ord, v < st.n
  room : st.room ≤ 4000
  cols : Cols w
end Go.Proofs.YthoodkbdpnffdaaDoor
