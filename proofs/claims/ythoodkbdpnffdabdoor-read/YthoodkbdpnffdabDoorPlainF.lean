/-
  Own work: how a store lies in memory, and what a load from it or a store into it gives.
-/
import Derived.Test.YthoodkbdpnffdabDoorWithW
import Derived.Deep.MidRow
import Derived.Test.YthoodkbdpnffdabDoorPlainE
namespace Go.Proofs.YthoodkbdpnffdabDoor
open Go.RowKit
open Cho (U64 Tab full col Nd)

/-- A store, plainly: its variables and room, the newest handle, the slots (handles, links), its nodes. Its order is ord. -/
structure St where
  n : Nat
  room : Nat
  given : Nat
  hs : List Nat
  rs : List Nat
  ord : List Nat
  ns : List Nd

def hv (hs : List Nat) : List Value := hs.map fun h : Nat => .int .u32 (h : Int)
def lv (rs : List Nat) : List Value := rs.map fun r : Nat => .int .i64 (r : Int)
def cellsOf (st : St) (ov nv : Value) : List Value :=
  .int .i64 st.n :: .int .i64 st.room :: .int .u32 st.given :: (hv st.hs ++ (lv st.rs ++ [ov, nv]))

theorem hv_len (l : List Nat) : (hv l).length = l.length := by simp [hv]
theorem lv_len (l : List Nat) : (lv l).length = l.length := by simp [lv]
theorem hv_set (l : List Nat) (i h : Nat) : (hv l).set i (.int .u32 h) = hv (l.set i h) := by simp [hv, List.map_set]
theorem lv_set (l : List Nat) (i h : Nat) : (lv l).set i (.int .i64 h) = lv (l.set i h) := by simp [lv, List.map_set]

section
variable {st : St} {ov nv : Value}
theorem at_h (h30 : st.hs.length = 30) (i : Nat) (hi : i < 30) : (cellsOf st ov nv)[3 + i]? = some (.int .u32 (st.hs[i]'(by omega) : Nat)) := by
  have e : 3 + i = (i + 1 + 1) + 1 := by omega
  rw [e]
  simp only [cellsOf, List.getElem?_cons_succ]
  rw [List.getElem?_append_left (by simp [hv]; omega)]
  simp [hv, h30, hi]
theorem at_r (h30 : st.hs.length = 30) (r30 : st.rs.length = 30) (i : Nat) (hi : i < 30) : (cellsOf st ov nv)[33 + i]? = some (.int .i64 (st.rs[i]'(by omega) : Nat)) := by
  have e : 33 + i = (30 + i + 1 + 1) + 1 := by omega
  rw [e]
  simp only [cellsOf, List.getElem?_cons_succ]
  rw [List.getElem?_append_right (by simp [hv]; omega), List.getElem?_append_left (by simp [hv, lv]; omega)]
  simp [hv, lv, h30, r30, hi]
theorem at_63 (h30 : st.hs.length = 30) (r30 : st.rs.length = 30) : (cellsOf st ov nv)[63]? = some ov := by
  simp only [cellsOf, List.getElem?_cons_succ]
  rw [List.getElem?_append_right (by simp [hv]; omega), List.getElem?_append_right (by simp [hv, lv]; omega)]
  simp [hv, lv, h30, r30]
theorem at_64 (h30 : st.hs.length = 30) (r30 : st.rs.length = 30) : (cellsOf st ov nv)[64]? = some nv := by
  simp only [cellsOf, List.getElem?_cons_succ]
  rw [List.getElem?_append_right (by simp [hv]; omega), List.getElem?_append_right (by simp [hv, lv]; omega)]
  simp [hv, lv, h30, r30]
theorem set_2 (g : Nat) : (cellsOf st ov nv).set 2 (.int .u32 g) = cellsOf { st with given := g } ov nv := rfl
theorem set_h (h30 : st.hs.length = 30) (i g : Nat) (hi : i < 30) : (cellsOf st ov nv).set (3 + i) (.int .u32 g) = cellsOf { st with hs := st.hs.set i g } ov nv := by
  have e : 3 + i = (i + 1 + 1) + 1 := by omega
  rw [e]
  simp only [cellsOf, List.set_cons_succ]
  rw [List.set_append_left _ _ (by simp [hv]; omega), hv_set]
theorem set_r (h30 : st.hs.length = 30) (r30 : st.rs.length = 30) (i g : Nat) (hi : i < 30) : (cellsOf st ov nv).set (33 + i) (.int .i64 g) = cellsOf { st with rs := st.rs.set i g } ov nv := by
  have e : 33 + i = (30 + i + 1 + 1) + 1 := by omega
  rw [e]
  simp only [cellsOf, List.set_cons_succ]
  rw [List.set_append_right _ _ (by simp [hv]; omega), List.set_append_left _ _ (by simp [hv, lv]; omega)]
  rw [show 30 + i - (hv st.hs).length = i from by simp [hv]; omega, lv_set]
theorem set_tail (A B : List Value) (x y x' y' : Value) : ((A ++ (B ++ [x, y])).set (A.length + B.length) x').set (A.length + B.length + 1) y' = A ++ (B ++ [x', y']) := by
  rw [List.set_append_right _ _ (by omega), List.set_append_right _ _ (by omega), show A.length + B.length - A.length = B.length from by omega, show A.length + B.length + 1 - A.length = B.length + 1 from by omega]
  rw [List.set_append_right _ _ (by omega), List.set_append_right _ _ (by omega), show B.length - B.length = 0 from by omega, show B.length + 1 - B.length = 1 from by omega]
  rfl
theorem set_d (h30 : st.hs.length = 30) (r30 : st.rs.length = 30) (ov' nv' : Value) : ((cellsOf st ov nv).set 63 ov').set 64 nv' = cellsOf st ov' nv' := by
  have := set_tail (hv st.hs) (lv st.rs) ov nv ov' nv'
  rw [hv_len, lv_len, h30, r30] at this
  simp only [cellsOf, List.set_cons_succ]
  rw [this]
end

/-- A block of cells behind one store into it. -/
theorem block_set {w : World} {b j : Nat} {l : List Value} {T : TypeId} {x : Value} (h : w.heap[b]? = some (.cells l.toArray T (0, 0))) : (w.setCell ⟨b, j, none⟩ x).heap[b]? = some (.cells (l.set j x).toArray T (0, 0)) := by
  simp only [World.setCell, Array.getElem?_modify, h]; simp

/-- A store lies in block s. -/
structure StoreAt (w : World) (s : Nat) (st : St) : Prop where
  pos : 0 < s
  ex : ∃ go capo nv B, w.heap[s]? = some (.cells (cellsOf st (.slice (some ⟨go, 0, none⟩) st.ord.length capo) nv).toArray 53 (0, 0)) ∧
    OrdAt w go st.ord ∧ (∃ cur, w.heap[go]? = some (.cells cur 3 (0, 0))) ∧ st.ord.length ≤ capo ∧ w.ownsRow B 78 3 nv st.ns.length (flat st.ns)
  hs30 : st.hs.length = 30
  rs30 : st.rs.length = 30
  given : st.given < 4294967295
  n6 : st.n ≤ 6
  ordl : st.ord.length = st.n
  ord6 : ∀ v ∈ st.ord, v < st.n
  room : st.room ≤ 4000
  cols : Cols w
end Go.Proofs.YthoodkbdpnffdabDoor

/-
  Own work: diagrams that are ordered and reduced: equal functions have equal links; building keeps that and says the table (plain mathematics).
-/
namespace Cho

/-- The level of a link: that of its node's variable; below all levels for no and yes. -/
def top (ord : List Nat) (ns : List Nd) (l : Nat) : Nat := if l < 2 then ord.length else
  match ns[l - 2]? with
  | none => ord.length
  | some n => ord.idxOf n.1

/-- Ordered, reduced, no node twice. -/
structure Red (ord : List Nat) (ns : List Nd) : Prop where
  wf : Wf ns
  nodup : ns.Nodup
  diff : ∀ k (hk : k < ns.length), ns[k].2.1 ≠ ns[k].2.2
  var : ∀ n ∈ ns, n.1 ∈ ord
  low : ∀ k (hk : k < ns.length), ord.idxOf ns[k].1 < top ord ns ns[k].2.1 ∧ ord.idxOf ns[k].1 < top ord ns ns[k].2.2

theorem top_small (ord : List Nat) (ns : List Nd) {l : Nat} (h : l < 2) : top ord ns l = ord.length := if_pos h
theorem top_node (ord : List Nat) (ns : List Nd) {k : Nat} (hk : k < ns.length) : top ord ns (k + 2) = ord.idxOf ns[k].1 := by
  unfold top; rw [if_neg (by omega), show k + 2 - 2 = k from by omega, List.getElem?_eq_getElem hk]
theorem top_append (ord : List Nat) (ns ms : List Nd) {l : Nat} (h : l < ns.length + 2) : top ord (ns ++ ms) l = top ord ns l := by
  unfold top
  split
  · rfl
  · rw [List.getElem?_append_left (by omega)]

theorem Red.nil (ord : List Nat) : Red ord [] := ⟨fun _ h => absurd h (by simp), List.nodup_nil, fun _ h => absurd h (by simp), by simp, fun _ h => absurd h (by simp)⟩

/-- A function hangs on no variable of a level above its link's. -/
theorem ev_indep {ord : List Nat} {ns : List Nd} (h : Red ord ns) (p v : Nat) (b : Bool) : ∀ l, l < ns.length + 2 → ord.idxOf v < top ord ns l → v ∈ ord → ev ns l (put p v b) = ev ns l p := by
  intro l
  induction l using Nat.strongRecOn with
  | ind l ih =>
    intro hl ht hv
    by_cases h2 : l < 2
    · rw [ev_small _ _ _ h2, ev_small _ _ _ h2]
    · obtain ⟨k, rfl⟩ : ∃ k, l = k + 2 := ⟨l - 2, by omega⟩
      have hk : k < ns.length := by omega
      rw [top_node ord ns hk] at ht
      have hw := h.wf k hk
      have hlow := h.low k hk
      have hne : ns[k].1 ≠ v := by intro e; rw [e] at ht; omega
      rw [ev_node h.wf _ hk, ev_node h.wf _ hk, put_testBit, if_neg hne]
      rw [ih _ (by omega) (by omega) (by omega) hv, ih _ (by omega) (by omega) (by omega) hv]

/-- EQUAL FUNCTIONS HAVE EQUAL LINKS. -/
theorem canon {ord : List Nat} {ns : List Nd} (h : Red ord ns) : ∀ m l l', l ≤ m → l' ≤ m → l < ns.length + 2 → l' < ns.length + 2 → (∀ p, ev ns l p = ev ns l' p) → l = l' := by
  intro m
  induction m with
  | zero => intro l l' hm hm' _ _ _; omega
  | succ m ih =>
    intro l l' hm hm' hl hl' he
    -- a node that lies above differs from all that lies below
    have key : ∀ k l' (hk : k < ns.length), l' < ns.length + 2 → k + 2 ≤ m + 1 → (∀ p, ev ns (k + 2) p = ev ns l' p) → ord.idxOf ns[k].1 < top ord ns l' → False := by
      intro k l' hk hl' hm he ht
      have hw := h.wf k hk
      have hlow := h.low k hk
      have hv := h.var ns[k] (List.getElem_mem hk)
      have hd := h.diff k hk
      apply hd
      apply ih _ _ (by omega) (by omega) (by omega) (by omega)
      intro p
      have e0 := he (put p ns[k].1 false)
      have e1 := he (put p ns[k].1 true)
      rw [ev_indep h p _ _ l' hl' ht hv, ev_node h.wf _ hk, put_testBit, if_pos rfl] at e0
      rw [ev_indep h p _ _ l' hl' ht hv, ev_node h.wf _ hk, put_testBit, if_pos rfl] at e1
      simp only [Bool.false_eq_true, if_false] at e0
      simp only [if_true] at e1
      rw [ev_indep h p _ _ _ (by omega) hlow.1 hv] at e0
      rw [ev_indep h p _ _ _ (by omega) hlow.2 hv] at e1
      rw [e0, e1]
    by_cases h2 : l < 2
    · by_cases h2' : l' < 2
      · have := he 0
        rw [ev_small _ _ _ h2, ev_small _ _ _ h2'] at this
        match l, l', h2, h2' with
        | 0, 0, _, _ => rfl
        | 1, 1, _, _ => rfl
        | 0, 1, _, _ => simp at this
        | 1, 0, _, _ => simp at this
      · obtain ⟨k, rfl⟩ : ∃ k, l' = k + 2 := ⟨l' - 2, by omega⟩
        have hk : k < ns.length := by omega
        exact (key k l hk hl (by omega) (fun p => (he p).symm) (by rw [top_small _ _ h2]; exact List.idxOf_lt_length_of_mem (h.var _ (List.getElem_mem hk)))).elim
    · obtain ⟨k, rfl⟩ : ∃ k, l = k + 2 := ⟨l - 2, by omega⟩
      have hk : k < ns.length := by omega
      by_cases h2' : l' < 2
      · exact (key k l' hk hl' (by omega) he (by rw [top_small _ _ h2']; exact List.idxOf_lt_length_of_mem (h.var _ (List.getElem_mem hk)))).elim
      · obtain ⟨k', rfl⟩ : ∃ k, l' = k + 2 := ⟨l' - 2, by omega⟩
        have hk' : k' < ns.length := by omega
        by_cases c1 : ord.idxOf ns[k].1 < ord.idxOf ns[k'].1
        · exact (key k (k' + 2) hk hl' (by omega) he (by rw [top_node _ _ hk']; exact c1)).elim
        · by_cases c2 : ord.idxOf ns[k'].1 < ord.idxOf ns[k].1
          · exact (key k' (k + 2) hk' hl (by omega) (fun p => (he p).symm) (by rw [top_node _ _ hk]; exact c2)).elim
          · have hv := h.var ns[k] (List.getElem_mem hk)
            have hv' := h.var ns[k'] (List.getElem_mem hk')
            have ei : ord.idxOf ns[k].1 = ord.idxOf ns[k'].1 := by omega
            have ev1 : ns[k].1 = ns[k'].1 := by
              have a := List.getElem_idxOf (List.idxOf_lt_length_of_mem hv)
              have b := List.getElem_idxOf (List.idxOf_lt_length_of_mem hv')
              rw [← a, ← b]; simp only [ei]
            have hw := h.wf k hk
            have hw' := h.wf k' hk'
            have hlow := h.low k hk
            have hlow' := h.low k' hk'
            have part : ∀ (b : Bool) (p : Nat), (if b then ev ns ns[k].2.2 p else ev ns ns[k].2.1 p) = (if b then ev ns ns[k'].2.2 p else ev ns ns[k'].2.1 p) := by
              intro b p
              have e := he (put p ns[k].1 b)
              rw [ev_node h.wf _ hk, ev_node h.wf _ hk', ← ev1, put_testBit, if_pos rfl] at e
              rw [ev_indep h p _ _ _ (by omega) hlow.1 hv, ev_indep h p _ _ _ (by omega) hlow.2 hv] at e
              rw [ev_indep h p _ _ ns[k'].2.1 (by omega) (by rw [ev1]; exact hlow'.1) hv, ev_indep h p _ _ ns[k'].2.2 (by omega) (by rw [ev1]; exact hlow'.2) hv] at e
              exact e
            have eno : ns[k].2.1 = ns[k'].2.1 := ih _ _ (by omega) (by omega) (by omega) (by omega) fun p => by simpa using part false p
            have eyes : ns[k].2.2 = ns[k'].2.2 := ih _ _ (by omega) (by omega) (by omega) (by omega) fun p => by simpa using part true p
            have en : ns[k] = ns[k'] := Prod.ext ev1 (Prod.ext eno eyes)
            have := (List.getElem_inj h.nodup).1 en
            omega
end Cho
