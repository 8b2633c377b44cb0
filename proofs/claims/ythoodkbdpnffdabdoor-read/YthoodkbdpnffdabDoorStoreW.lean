/-
  Own work: what the store's own small functions find (walks).
-/
import Derived.Test.YthoodkbdpnffdabDoorPlainF
namespace Go.Proofs.YthoodkbdpnffdabDoor
open Go.RowKit
open Cho (U64 Tab full col Nd)

/-- 'a[i]' of an array of one-cell elements by value, i in range. -/
theorem run_index_in {P : Program} (w : World) (t e : TypeId) (n : Nat) (cs : Array Value) (k : IntKind) (i : Nat) (v : Value) (d : TypeDesc) (h : P.underlying t = some (.array n e)) (hd : P.underlying e = some d)
    (hr : d.isRow = false) (hs : (P.info? e).map (·.size) = some 1) (hi : i < n) (hv : cs[i]? = some v) :
    (Instr.index t (.agg cs) (.int k (i : Int))).run P w = .ok v w := by
  have hn : (0 : Int) ≤ i ∧ (i : Int) < n := by omega
  have hagg : (isAgg e).run P w = .ok false w := by
    unfold isAgg
    rw [Sem.run_bind, run_underlying hd w]
    cases d <;> simp_all
  cases hq : P.info? e with
  | none => simp [hq] at hs
  | some i0 =>
    have hz : i0.size = 1 := by simpa [hq] using hs
    simp [Instr.index, run_underlying h, asIntOf, hn, part, hagg, sizeOf, typeInfo, hq, hz, hv]
    omega

theorem Tryd.arrH : (Tryd.prog.info? 45).map (·.size) = some 30 := by kernel_rfl
theorem Tryd.oneH : (Tryd.prog.info? 27).map (·.size) = some 1 := by kernel_rfl

theorem range_h {w : World} {s : Nat} {st : St} {ov nv : Value} {T : TypeId} (hb : w.heap[s]? = some (.cells (cellsOf st ov nv).toArray T (0, 0))) (h30 : st.hs.length = 30) : w.rangeAt s 3 (hv st.hs) := by
  intro j v hj
  rw [cell_of_block hb]
  have hlt : j < 30 := by
    have := (List.getElem?_eq_some_iff.1 hj).1
    simpa [hv, h30] using this
  have := at_h (st := st) (ov := ov) (nv := nv) h30 j hlt
  rw [List.getElem?_toArray, this, ← hj]
  simp [hv, h30, hlt]

/-- A slot as the code tells it: -1 if there is none. -/
def ixOr (k : Nat) : Int := if k < 30 then (k : Int) else -1
theorem ixOr_lt {k : Nat} (h : k < 30) : ixOr k = k := if_pos h
theorem ixOr_ge {k : Nat} (h : ¬ k < 30) : ixOr k = -1 := if_neg h
/-- The first free slot; 30 if there is none. -/
def St.free (st : St) : Nat := st.hs.idxOf 0

theorem idx_first {l : List Nat} {n k : Nat} (hk : k < l.length) (e : l[k] = n) (h : ∀ j (hj : j < l.length), j < k → l[j] ≠ n) : l.idxOf n = k := by
  induction l generalizing k with
  | nil => simp at hk
  | cons a l ih =>
    cases k with
    | zero => simp at e; simp [e]
    | succ k =>
      have h0 : a ≠ n := by have := h 0 (by simp) (by omega); simpa using this
      have hb : (a == n) = false := by simpa using h0
      rw [List.idxOf_cons, hb]
      have := ih (k := k) (by simpa using hk) (by simpa using e) (fun j hj hjk => by have := h (j + 1) (by simpa using hj) (by omega); simpa using this)
      simp [this]
theorem idx_none {l : List Nat} {n : Nat} (h : ∀ j (hj : j < l.length), l[j] ≠ n) : l.idxOf n = l.length := by
  apply List.idxOf_eq_length
  intro hm
  obtain ⟨j, hj, e⟩ := List.getElem_of_mem hm
  exact h j hj e

set_option maxHeartbeats 400000 in
theorem free_calls (s : Nat) (st : St) (ov nv : Value) (w : World) (hb : w.heap[s]? = some (.cells (cellsOf st ov nv).toArray 53 (0, 0))) (h30 : st.hs.length = 30) (hgl : st.given < 4294967295) :
    Calls Tryd.prog 16 #[.pointer (some ⟨s, 0, none⟩)] w fun e w' => e = .returned (.int .i64 (ixOr st.free)) ∧ w' = w := by
  have hrange := range_h hb h30
  have hlt := lt_of_block hb
  have hg : w.cell? ⟨s, 2, none⟩ = some (.int .u32 (st.given : Nat)) := cell_of_block hb 2
  have hgiv : (((st.given : Nat) : Int) == 4294967295) = false := by simp; omega
  have HI : Hid (∀ (w : World) (k : Nat) (hk : k < 30), (Instr.index 45 (.agg (hv st.hs).toArray) (.int .i64 (k : Int))).run Tryd.prog w = .ok (.int .u32 (st.hs[k]'(by omega) : Nat)) w) :=
    fun w k hk => run_index_in w _ _ _ _ _ k _ _ Tryd.underlying45 Tryd.underlying27 rfl Tryd.oneH hk (by simp [hv, h30, hk])
  go_enter Tryd.func16, Tryd.ntmps16
  go_wp2_with (refine wpList_load_mid rfl 45 _ rfl s 3 rfl (hv st.hs) _ hrange Tryd.underlying45 rfl (Tryd.arrH.trans (by rw [hv_len, h30])) ?_)
  generalize hv st.hs = cs at *
  go_loop [14] (fun i => ∃ k : Nat, k ≤ 30 ∧ i = .int .i64 k ∧ ∀ j (hj : j < st.hs.length), j < k → st.hs[j] ≠ 0) (fun i => 30 - (intOf i).toNat)
  case atStart => exact ⟨0, by omega, rfl, fun _ _ h => absurd h (Nat.not_lt_zero _)⟩
  case round =>
    obtain ⟨k, hk, rfl, hno⟩ := hrel
    by_cases hk30 : k < 30
    · have hidx := fun w => HI.out w k hk30
      by_cases hz : st.hs[k]'(by omega) = 0
      · have HF : Hid (st.free = k) := idx_first (by omega) hz hno
        rw [hz] at hidx
        go_wp2
        go_ret
        exact ⟨ret_int (by rw [HF.out, ixOr_lt hk30]), rfl⟩
      · have hz' : (((st.hs[k]'(by omega) : Nat) : Int) == 0) = false := by simpa using hz
        have HN : Hid (∀ j (hj : j < st.hs.length), j < k + 1 → st.hs[j] ≠ 0) := by
          intro j hj hjk
          by_cases e : j = k
          · subst e; exact hz
          · exact hno j hj (by omega)
        generalize st.hs[k]'(by omega) = x at *
        clear hno hz
        go_wp2
        exact ⟨⟨k + 1, by omega, by go_num, HN.out⟩, by simp [intOf]; omega⟩
    · have HF : Hid (st.free = 30) := (idx_none fun j hj => hno j hj (by omega)).trans h30
      go_wp2
      go_ret
      exact ⟨ret_int (by rw [HF.out]; rfl), rfl⟩

/-- The slot of a handle; 30 if it is not live. -/
def St.slot (st : St) (a : Nat) : Nat := if a = 0 then 30 else st.hs.idxOf a

set_option maxHeartbeats 400000 in
theorem slot_calls (s a : Nat) (st : St) (ov nv : Value) (w : World) (hb : w.heap[s]? = some (.cells (cellsOf st ov nv).toArray 53 (0, 0))) (h30 : st.hs.length = 30) :
    Calls Tryd.prog 27 #[.pointer (some ⟨s, 0, none⟩), .int .u32 a] w fun e w' => e = .returned (.int .i64 (ixOr (st.slot a))) ∧ w' = w := by
  have hrange := range_h hb h30
  have hlt := lt_of_block hb
  have HI : Hid (∀ (w : World) (k : Nat) (hk : k < 30), (Instr.index 45 (.agg (hv st.hs).toArray) (.int .i64 (k : Int))).run Tryd.prog w = .ok (.int .u32 (st.hs[k]'(by omega) : Nat)) w) :=
    fun w k hk => run_index_in w _ _ _ _ _ k _ _ Tryd.underlying45 Tryd.underlying27 rfl Tryd.oneH hk (by simp [hv, h30, hk])
  go_enter Tryd.func27, Tryd.ntmps27
  go_wp2_with (refine wpList_load_mid rfl 45 _ rfl s 3 rfl (hv st.hs) _ hrange Tryd.underlying45 rfl (Tryd.arrH.trans (by rw [hv_len, h30])) ?_)
  generalize hv st.hs = cs at *
  go_loop [11] (fun i => ∃ k : Nat, k ≤ 30 ∧ i = .int .i64 k ∧ ∀ j (hj : j < st.hs.length), j < k → st.hs[j] ≠ a ∨ a = 0) (fun i => 30 - (intOf i).toNat)
  case atStart => exact ⟨0, by omega, rfl, fun _ _ h => absurd h (Nat.not_lt_zero _)⟩
  case round =>
    obtain ⟨k, hk, rfl, hno⟩ := hrel
    by_cases hk30 : k < 30
    · have hidx := fun w => HI.out w k hk30
      by_cases hz : st.hs[k]'(by omega) = a ∧ a ≠ 0
      · have HF : Hid (st.slot a = k) := by
          show st.slot a = k
          unfold St.slot
          rw [if_neg hz.2]
          exact idx_first (by omega) hz.1 fun j hj hjk => (hno j hj hjk).resolve_right hz.2
        have hz2 : ((a : Int) != 0) = true := by have := hz.2; simp; omega
        rw [hz.1] at hidx
        clear hz
        go_wp2
        go_ret
        exact ⟨ret_int (by rw [HF.out, ixOr_lt hk30]), rfl⟩
      · have HN : Hid (∀ j (hj : j < st.hs.length), j < k + 1 → st.hs[j] ≠ a ∨ a = 0) := by
          intro j hj hjk
          by_cases e : j = k
          · subst e
            by_cases h0 : a = 0
            · exact .inr h0
            · exact .inl fun e => hz ⟨e, h0⟩
          · exact hno j hj (by omega)
        by_cases hx : st.hs[k]'(by omega) = a
        · have h0 : a = 0 := by
            by_cases h0 : a = 0
            · exact h0
            · exact absurd ⟨hx, h0⟩ hz
          rw [hx] at hidx
          have hz2 : ((a : Int) != 0) = false := by simp [h0]
          clear hno hz hx h0
          go_wp2
          exact ⟨⟨k + 1, by omega, by go_num, HN.out⟩, by simp [intOf]; omega⟩
        · have hz' : (((st.hs[k]'(by omega) : Nat) : Int) == (a : Int)) = false := by simp; omega
          generalize st.hs[k]'(by omega) = x at *
          clear hno hz hx
          go_wp2
          exact ⟨⟨k + 1, by omega, by go_num, HN.out⟩, by simp [intOf]; omega⟩
    · have HF : Hid (st.slot a = 30) := by
        show st.slot a = 30
        unfold St.slot
        by_cases h0 : a = 0
        · rw [if_pos h0]
        · rw [if_neg h0]
          exact (idx_none fun j hj => (hno j hj (by omega)).resolve_right h0).trans h30
      go_wp2
      go_ret
      exact ⟨ret_int (by rw [HF.out]; rfl), rfl⟩
end Go.Proofs.YthoodkbdpnffdabDoor
