/-
  Own work: every node that is built is a node of the function; how many nodes a function has (plain mathematics).
-/
import Derived.Test.YthoodkbdpnffdabGreatDoorPlainJ
import Derived.Test.YthoodkbdpnffdabGreatDoorPlainF
import Derived.Test.YthoodkbdpnffdabGreatDoorSaysW
namespace Cho

theorem reach_self (ns : List Nd) {ls : List Nat} {l : Nat} (h : l ∈ ls) : Reach ns ls l := fun _ a _ => a l h
theorem reach_append {ns ms : List Nd} {ls : List Nat} {l : Nat} (h : Reach ns ls l) : Reach (ns ++ ms) ls l := fun S a b =>
  h S a fun k hk hs => by
    have := b k (by simp; omega) hs
    rw [List.getElem_append_left hk] at this
    exact this
theorem reach_trans {ns : List Nd} {ls ls' : List Nat} {l : Nat} (h : Reach ns ls l) (h' : ∀ m ∈ ls, Reach ns ls' m) : Reach ns ls' l := fun S a b =>
  h S (fun m hm => h' m hm S a b) b
theorem reach_kid {ns : List Nd} {ls : List Nat} {k : Nat} (hk : k < ns.length) (h : Reach ns ls (k + 2)) : Reach ns ls ns[k].2.1 ∧ Reach ns ls ns[k].2.2 :=
  ⟨fun S a b => (b k hk (h S a b)).1, fun S a b => (b k hk (h S a b)).2⟩
theorem reach_one {ns : List Nd} {ls : List Nat} {l : Nat} (h : Reach ns ls l) : ∃ r ∈ ls, Reach ns [r] l :=
  h (fun l => ∃ r ∈ ls, Reach ns [r] l) (fun l hl => ⟨l, hl, reach_self ns (by simp)⟩) fun k hk ⟨r, hr, hk2⟩ => ⟨⟨r, hr, (reach_kid hk hk2).1⟩, ⟨r, hr, (reach_kid hk hk2).2⟩⟩
/-- No and yes lead to no node. -/
theorem reach_big {ns : List Nd} {ls ls' : List Nat} {l : Nat} (h : Reach ns ls l) (hl : 2 ≤ l) (h' : ∀ m ∈ ls, m < 2 ∨ m ∈ ls') : Reach ns ls' l := by
  have := h (fun l => l < 2 ∨ Reach ns ls' l) (fun m hm => (h' m hm).imp id (fun h => reach_self ns h)) fun k hk hk2 => by
    have := reach_kid hk (hk2.resolve_left (by omega))
    exact ⟨.inr this.1, .inr this.2⟩
  exact this.resolve_left (by omega)

/-- Every node that is added is one of the function's. -/
theorem build_full (vs : List Nat) : ∀ (t : Nat) (ns : List Nd), ∃ ms, (build vs t ns).1 = ns ++ ms ∧ ∀ k, ns.length ≤ k → k < (ns ++ ms).length → Reach (ns ++ ms) [(build vs t ns).2] (k + 2) := by
  induction vs with
  | nil => intro t ns; exact ⟨[], by simp [build], fun k h1 h2 => absurd h2 (by simp; omega)⟩
  | cons v vs ih =>
    intro t ns
    obtain ⟨m1, e1, h1⟩ := ih (fix t v false) ns
    obtain ⟨m2, e2, h2⟩ := ih (fix t v true) (build vs (fix t v false) ns).1
    simp only [build]
    generalize build vs (fix t v false) ns = r1 at *
    generalize build vs (fix t v true) r1.1 = r2 at *
    obtain ⟨n1, l1⟩ := r1
    obtain ⟨n2, l2⟩ := r2
    simp only at *
    subst e1 e2
    -- every node beyond ns is reached from one of the two links
    have both : ∀ k, ns.length ≤ k → k < (ns ++ m1 ++ m2).length → Reach (ns ++ m1 ++ m2) [l1, l2] (k + 2) := by
      intro k hk1 hk2
      by_cases h : k < (ns ++ m1).length
      · exact reach_trans (reach_append (h1 k hk1 h)) fun m hm => reach_self _ (by simp at hm; simp [hm])
      · exact reach_trans (h2 k (by omega) hk2) fun m hm => reach_self _ (by simp at hm; simp [hm])
    by_cases e : l1 = l2
    · subst e
      have ej : join (ns ++ m1 ++ m2) (v, l1, l1) = (ns ++ m1 ++ m2, l1) := by simp [join]
      rw [ej]
      refine ⟨m1 ++ m2, by simp, fun k a b => ?_⟩
      rw [← List.append_assoc] at b ⊢
      exact reach_trans (both k a b) fun m hm => reach_self _ (by simp at hm; simp [hm])
    · by_cases hm : (v, l1, l2) ∈ ns ++ m1 ++ m2
      · have ej : join (ns ++ m1 ++ m2) (v, l1, l2) = (ns ++ m1 ++ m2, (ns ++ m1 ++ m2).idxOf (v, l1, l2) + 2) := by unfold join; rw [if_neg e, if_pos hm]
        have hi := List.idxOf_lt_length_of_mem hm
        have hg : (ns ++ m1 ++ m2)[(ns ++ m1 ++ m2).idxOf (v, l1, l2)] = (v, l1, l2) := List.getElem_idxOf hi
        rw [ej]
        refine ⟨m1 ++ m2, by simp, fun k a b => ?_⟩
        rw [← List.append_assoc] at b ⊢
        simp only
        have kid := reach_kid hi (reach_self (ns ++ m1 ++ m2) (ls := [(ns ++ m1 ++ m2).idxOf (v, l1, l2) + 2]) (by simp))
        rw [hg] at kid
        exact reach_trans (both k a b) fun m hm => by
          simp at hm
          rcases hm with rfl | rfl
          · exact kid.1
          · exact kid.2
      · have ej : join (ns ++ m1 ++ m2) (v, l1, l2) = (ns ++ m1 ++ m2 ++ [(v, l1, l2)], (ns ++ m1 ++ m2).length + 2) := by unfold join; rw [if_neg e, if_neg hm, List.idxOf_eq_length hm]
        rw [ej]
        refine ⟨m1 ++ m2 ++ [(v, l1, l2)], by simp, fun k a b => ?_⟩
        have eass : ns ++ (m1 ++ m2 ++ [(v, l1, l2)]) = ns ++ m1 ++ m2 ++ [(v, l1, l2)] := by simp
        rw [eass] at b ⊢
        simp only
        have kid := reach_kid (ns := ns ++ m1 ++ m2 ++ [(v, l1, l2)]) (k := (ns ++ m1 ++ m2).length) (by simp) (reach_self _ (ls := [(ns ++ m1 ++ m2).length + 2]) (by simp))
        have hg : (ns ++ m1 ++ m2 ++ [(v, l1, l2)])[(ns ++ m1 ++ m2).length]'(by simp) = (v, l1, l2) := by simp
        rw [hg] at kid
        by_cases hk : k < (ns ++ m1 ++ m2).length
        · exact reach_trans (reach_append (both k a hk)) fun m hm => by
            simp at hm
            rcases hm with rfl | rfl
            · exact kid.1
            · exact kid.2
        · have ek : k = (ns ++ m1 ++ m2).length := by simp only [List.length_append, List.length_cons, List.length_nil] at b hk ⊢; omega
          rw [ek]
          exact reach_self _ (by simp)

/-- How many of the first k nodes are marked. -/
def cntM (b : List Bool) : Nat → Nat
  | 0 => 0
  | k + 1 => if b.getD (k + 2) false then cntM b k + 1 else cntM b k
theorem cntM_le (b : List Bool) (k : Nat) : cntM b k ≤ k := by
  induction k with
  | zero => simp [cntM]
  | succ k ih => simp only [cntM]; split <;> omega
theorem cntM_all (b : List Bool) (k : Nat) (h : ∀ i, i < k → b.getD (i + 2) false = true) : cntM b k = k := by
  induction k with
  | zero => simp [cntM]
  | succ k ih => simp only [cntM]; rw [if_pos (h k (by omega)), ih fun i hi => h i (by omega)]
theorem cntM_none (b : List Bool) (k : Nat) (h : ∀ i, i < k → b.getD (i + 2) false = false) : cntM b k = 0 := by
  induction k with
  | zero => simp [cntM]
  | succ k ih => simp only [cntM]; rw [if_neg (by rw [h k (by omega)]; simp), ih fun i hi => h i (by omega)]
theorem cntM_one (b : List Bool) (k r : Nat) (hr : r < k) (h : ∀ i, i < k → (b.getD (i + 2) false = true ↔ i = r)) : cntM b k = 1 := by
  induction k with
  | zero => omega
  | succ k ih =>
    simp only [cntM]
    by_cases e : k = r
    · subst e
      rw [if_pos ((h k (by omega)).2 rfl), cntM_none b k fun i hi => by
        have := h i (by omega)
        cases hb : b.getD (i + 2) false
        · rfl
        · have := this.1 hb; omega]
    · rw [if_neg (fun hb => e ((h k (by omega)).1 hb))]
      exact ih (by omega) fun i hi => h i (by omega)
theorem sum_step (bs : List (List Bool)) (k : Nat) : (bs.map (cntM · k)).sum ≤ (bs.map (cntM · (k + 1))).sum := by
  induction bs with
  | nil => simp
  | cons b bs ih =>
    simp only [List.map_cons, List.sum_cons]
    have : cntM b k ≤ cntM b (k + 1) := by rw [cntM]; split <;> omega
    omega
theorem sum_step1 (bs : List (List Bool)) (k : Nat) (h : ∃ b ∈ bs, b.getD (k + 2) false = true) : (bs.map (cntM · k)).sum + 1 ≤ (bs.map (cntM · (k + 1))).sum := by
  induction bs with
  | nil => simp at h
  | cons b bs ih =>
    have hs := sum_step bs k
    simp only [List.map_cons, List.sum_cons]
    by_cases hb : b.getD (k + 2) false = true
    · have : cntM b (k + 1) = cntM b k + 1 := by rw [cntM, if_pos hb]
      omega
    · have : cntM b (k + 1) = cntM b k := by rw [cntM, if_neg hb]
      have := ih (by
        obtain ⟨c, hc, hm⟩ := h
        rcases List.mem_cons.1 hc with rfl | hc
        · exact absurd hm hb
        · exact ⟨c, hc, hm⟩)
      omega
theorem cover (bs : List (List Bool)) (k : Nat) (h : ∀ i, i < k → ∃ b ∈ bs, b.getD (i + 2) false = true) : k ≤ (bs.map (cntM · k)).sum := by
  induction k with
  | zero => omega
  | succ k ih =>
    have := ih fun i hi => h i (by omega)
    have := sum_step1 bs k (h k (by omega))
    omega

/-- How many nodes the function of a link has. -/
def size (ns : List Nd) (l : Nat) : Nat := cntM (reached ns [l]) ns.length
theorem size_le (ns : List Nd) (l : Nat) : size ns l ≤ ns.length := cntM_le _ _
theorem size_all {ns : List Nd} (hw : Wf ns) (l : Nat) (hl : l < ns.length + 2) (h : ∀ k, k < ns.length → Reach ns [l] (k + 2)) : size ns l = ns.length :=
  cntM_all _ _ fun i hi => (reached_iff hw [l] (by simpa using hl) _ (by omega)).2 (h i hi)
theorem size_sum {ns : List Nd} (hw : Wf ns) (ls : List Nat) (hls : ∀ l ∈ ls, l < ns.length + 2) (h : ∀ k, k < ns.length → Reach ns ls (k + 2)) : ns.length ≤ (ls.map (size ns)).sum := by
  have := cover (ls.map fun l => reached ns [l]) ns.length fun i hi => by
    obtain ⟨r, hr, hk⟩ := reach_one (h i hi)
    exact ⟨_, List.mem_map_of_mem hr, (reached_iff hw [r] (by simpa using hls r hr) _ (by omega)).2 hk⟩
  rw [List.map_map] at this
  exact this
end Cho

/-
  Own work: what the store's own small functions find (walks).
-/
namespace Go.Proofs.YthoodkbdpnffdabGreatDoor
open Go.RowKit
open Cho (U64 Tab full col Nd)

/-- 'a[i]' of an array of one-cell elements by value, i in range. -/
theorem run_index_in {P : Program} (w : World) (t e : TypeId) (n : Nat) (cs : Array Value) (k : IntKind) (i : Nat) (v : Value) (d : TypeDesc) (h : P.underlying t = some (.array n e)) (hd : P.underlying e = some d)
    (hr : d.isRow = false) (hs : (P.info? e).map (·.size) = some 1) (hi : i < n) (hv : cs[i]? = some v) :
    (Instr.index t (.agg cs) (.int k (i : Int))).run P w = .ok v w := by
  have hn : (0 : Int) ≤ i ∧ (i : Int) < n := by omega
  have hagg : (isAgg e).run P w = .ok false w := by
    unfold isAgg
    rw [Sem.run_bind, run_underlying hd w]
    cases d <;> simp_all
  cases hq : P.info? e with
  | none => simp [hq] at hs
  | some i0 =>
    have hz : i0.size = 1 := by simpa [hq] using hs
    simp [Instr.index, run_underlying h, asIntOf, hn, part, hagg, sizeOf, typeInfo, hq, hz, hv]
    omega

theorem Tryz.arrH : (Tryz.prog.info? 58).map (·.size) = some 30 := by kernel_rfl
theorem Tryz.oneH : (Tryz.prog.info? 57).map (·.size) = some 1 := by kernel_rfl

theorem range_h {w : World} {s : Nat} {st : St} {ov nv : Value} {T : TypeId} (hb : w.heap[s]? = some (.cells (cellsOf st ov nv).toArray T (0, 0))) (h30 : st.hs.length = 30) : w.rangeAt s 3 (hv st.hs) := by
  intro j v hj
  rw [cell_of_block hb]
  have hlt : j < 30 := by
    have := (List.getElem?_eq_some_iff.1 hj).1
    simpa [hv, h30] using this
  have := at_h (st := st) (ov := ov) (nv := nv) h30 j hlt
  rw [List.getElem?_toArray, this, ← hj]
  simp [hv, h30, hlt]

/-- A slot as the code tells it: -1 if there is none. -/
def ixOr (k : Nat) : Int := if k < 30 then (k : Int) else -1
theorem ixOr_lt {k : Nat} (h : k < 30) : ixOr k = k := if_pos h
theorem ixOr_ge {k : Nat} (h : ¬ k < 30) : ixOr k = -1 := if_neg h
/-- The first free slot; 30 if there is none. -/
def St.free (st : St) : Nat := st.hs.idxOf 0

theorem idx_first {l : List Nat} {n k : Nat} (hk : k < l.length) (e : l[k] = n) (h : ∀ j (hj : j < l.length), j < k → l[j] ≠ n) : l.idxOf n = k := by
  induction l generalizing k with
  | nil => simp at hk
  | cons a l ih =>
    cases k with
    | zero => simp at e; simp [e]
    | succ k =>
      have h0 : a ≠ n := by have := h 0 (by simp) (by omega); simpa using this
      have hb : (a == n) = false := by simpa using h0
      rw [List.idxOf_cons, hb]
      have := ih (k := k) (by simpa using hk) (by simpa using e) (fun j hj hjk => by have := h (j + 1) (by simpa using hj) (by omega); simpa using this)
      simp [this]
theorem idx_none {l : List Nat} {n : Nat} (h : ∀ j (hj : j < l.length), l[j] ≠ n) : l.idxOf n = l.length := by
  apply List.idxOf_eq_length
  intro hm
  obtain ⟨j, hj, e⟩ := List.getElem_of_mem hm
  exact h j hj e

set_option maxHeartbeats 400000 in
theorem free_calls (s : Nat) (st : St) (ov nv : Value) (w : World) (hb : w.heap[s]? = some (.cells (cellsOf st ov nv).toArray 62 (0, 0))) (h30 : st.hs.length = 30) (hgl : st.given < 4294967295) :
    Calls Tryz.prog 108 #[.pointer (some ⟨s, 0, none⟩)] w fun e w' => e = .returned (.int .i64 (ixOr st.free)) ∧ w' = w := by
  have hrange := range_h hb h30
  have hlt := lt_of_block hb
  have hg : w.cell? ⟨s, 2, none⟩ = some (.int .u32 (st.given : Nat)) := cell_of_block hb 2
  have hgiv : (((st.given : Nat) : Int) == 4294967295) = false := by simp; omega
  have HI : Hid (∀ (w : World) (k : Nat) (hk : k < 30), (Instr.index 58 (.agg (hv st.hs).toArray) (.int .i64 (k : Int))).run Tryz.prog w = .ok (.int .u32 (st.hs[k]'(by omega) : Nat)) w) :=
    fun w k hk => run_index_in w _ _ _ _ _ k _ _ Tryz.underlying58 Tryz.underlying57 rfl Tryz.oneH hk (by simp [hv, h30, hk])
  go_enter Tryz.func108, Tryz.ntmps108
  go_wp2_with (refine wpList_load_mid rfl 58 _ rfl s 3 rfl (hv st.hs) _ hrange Tryz.underlying58 rfl (Tryz.arrH.trans (by rw [hv_len, h30])) ?_)
  generalize hv st.hs = cs at *
  go_loop [14] (fun i => ∃ k : Nat, k ≤ 30 ∧ i = .int .i64 k ∧ ∀ j (hj : j < st.hs.length), j < k → st.hs[j] ≠ 0) (fun i => 30 - (intOf i).toNat)
  case atStart => exact ⟨0, by omega, rfl, fun _ _ h => absurd h (Nat.not_lt_zero _)⟩
  case round =>
    obtain ⟨k, hk, rfl, hno⟩ := hrel
    by_cases hk30 : k < 30
    · have hidx := fun w => HI.out w k hk30
      by_cases hz : st.hs[k]'(by omega) = 0
      · have HF : Hid (st.free = k) := idx_first (by omega) hz hno
        rw [hz] at hidx
        go_wp2
        go_ret
        exact ⟨ret_int (by rw [HF.out, ixOr_lt hk30]), rfl⟩
      · have hz' : (((st.hs[k]'(by omega) : Nat) : Int) == 0) = false := by simpa using hz
        have HN : Hid (∀ j (hj : j < st.hs.length), j < k + 1 → st.hs[j] ≠ 0) := by
          intro j hj hjk
          by_cases e : j = k
          · subst e; exact hz
          · exact hno j hj (by omega)
        generalize st.hs[k]'(by omega) = x at *
        clear hno hz
        go_wp2
        exact ⟨⟨k + 1, by omega, by go_num, HN.out⟩, by simp [intOf]; omega⟩
    · have HF : Hid (st.free = 30) := (idx_none fun j hj => hno j hj (by omega)).trans h30
      go_wp2
      go_ret
      exact ⟨ret_int (by rw [HF.out]; rfl), rfl⟩

/-- The slot of a handle; 30 if it is not live. -/
def St.slot (st : St) (a : Nat) : Nat := if a = 0 then 30 else st.hs.idxOf a

set_option maxHeartbeats 400000 in
theorem slot_calls (s a : Nat) (st : St) (ov nv : Value) (w : World) (hb : w.heap[s]? = some (.cells (cellsOf st ov nv).toArray 62 (0, 0))) (h30 : st.hs.length = 30) :
    Calls Tryz.prog 79 #[.pointer (some ⟨s, 0, none⟩), .int .u32 a] w fun e w' => e = .returned (.int .i64 (ixOr (st.slot a))) ∧ w' = w := by
  have hrange := range_h hb h30
  have hlt := lt_of_block hb
  have HI : Hid (∀ (w : World) (k : Nat) (hk : k < 30), (Instr.index 58 (.agg (hv st.hs).toArray) (.int .i64 (k : Int))).run Tryz.prog w = .ok (.int .u32 (st.hs[k]'(by omega) : Nat)) w) :=
    fun w k hk => run_index_in w _ _ _ _ _ k _ _ Tryz.underlying58 Tryz.underlying57 rfl Tryz.oneH hk (by simp [hv, h30, hk])
  go_enter Tryz.func79, Tryz.ntmps79
  go_wp2_with (refine wpList_load_mid rfl 58 _ rfl s 3 rfl (hv st.hs) _ hrange Tryz.underlying58 rfl (Tryz.arrH.trans (by rw [hv_len, h30])) ?_)
  generalize hv st.hs = cs at *
  go_loop [11] (fun i => ∃ k : Nat, k ≤ 30 ∧ i = .int .i64 k ∧ ∀ j (hj : j < st.hs.length), j < k → st.hs[j] ≠ a ∨ a = 0) (fun i => 30 - (intOf i).toNat)
  case atStart => exact ⟨0, by omega, rfl, fun _ _ h => absurd h (Nat.not_lt_zero _)⟩
  case round =>
    obtain ⟨k, hk, rfl, hno⟩ := hrel
    by_cases hk30 : k < 30
    · have hidx := fun w => HI.out w k hk30
      by_cases hz : st.hs[k]'(by omega) = a ∧ a ≠ 0
      · have HF : Hid (st.slot a = k) := by
          show st.slot a = k
          unfold St.slot
          rw [if_neg hz.2]
          exact idx_first (by omega) hz.1 fun j hj hjk => (hno j hj hjk).resolve_right hz.2
        have hz2 : ((a : Int) != 0) = true := by have := hz.2; simp; omega
        rw [hz.1] at hidx
        clear hz
        go_wp2
        go_ret
        exact ⟨ret_int (by rw [HF.out, ixOr_lt hk30]), rfl⟩
      · have HN : Hid (∀ j (hj : j < st.hs.length), j < k + 1 → st.hs[j] ≠ a ∨ a = 0) := by
          intro j hj hjk
          by_cases e : j = k
          · subst e
            by_cases h0 : a = 0
            · exact .inr h0
            · exact .inl fun e => hz ⟨e, h0⟩
          · exact hno j hj (by omega)
        by_cases hx : st.hs[k]'(by omega) = a
        · have h0 : a = 0 := by
            by_cases h0 : a = 0
            · exact h0
            · exact absurd ⟨hx, h0⟩ hz
          rw [hx] at hidx
          have hz2 : ((a : Int) != 0) = false := by simp [h0]
          clear hno hz hx h0
          go_wp2
          exact ⟨⟨k + 1, by omega, by go_num, HN.out⟩, by simp [intOf]; omega⟩
        · have hz' : (((st.hs[k]'(by omega) : Nat) : Int) == (a : Int)) = false := by simp; omega
          generalize st.hs[k]'(by omega) = x at *
          clear hno hz hx
          go_wp2
          exact ⟨⟨k + 1, by omega, by go_num, HN.out⟩, by simp [intOf]; omega⟩
    · have HF : Hid (st.slot a = 30) := by
        show st.slot a = 30
        unfold St.slot
        by_cases h0 : a = 0
        · rw [if_pos h0]
        · rw [if_neg h0]
          exact (idx_none fun j hj => (hno j hj (by omega)).resolve_right h0).trans h30
      go_wp2
      go_ret
      exact ⟨ret_int (by rw [HF.out]; rfl), rfl⟩
end Go.Proofs.YthoodkbdpnffdabGreatDoor

/-
  Own work: what the store's inner calls do to a store in memory (walks): full, root, add.
-/
namespace Go.Proofs.YthoodkbdpnffdabGreatDoor
open Go.RowKit
open Cho (U64 Tab full col Nd)

theorem getD_at {l : List Nat} {k : Nat} (h : k < l.length) : l.getD k 0 = l[k] := by simp [List.getD, h]
theorem grown_of_below {w w' : World} {r : Option Nat} (h : Below w.heap.size w w') : w.grownBy w' r := ⟨h.os, h.tape, h.output, h.size, fun k hk _ => h.block k hk⟩
theorem grown_refl (w : World) (r : Option Nat) : w.grownBy w r := ⟨rfl, rfl, rfl, Nat.le_refl _, fun _ _ _ => rfl⟩
theorem grown_trans {a b c : World} {r : Option Nat} (h : a.grownBy b r) (k : b.grownBy c r) : a.grownBy c r :=
  ⟨k.os.trans h.os, k.tape.trans h.tape, k.output.trans h.output, Nat.le_trans h.size k.size, fun i hi hr => (k.block i (Nat.lt_of_lt_of_le hi h.size) hr).trans (h.block i hi hr)⟩
theorem grown_set {a b : World} {s j : Nat} {v : Value} (h : a.grownBy b (some s)) : a.grownBy (b.setCell ⟨s, j, none⟩ v) (some s) :=
  ⟨h.os, h.tape, h.output, by simp [World.setCell]; exact h.size, fun i hi hr => (block_set_other (by intro e; exact hr (by rw [e]))).trans (h.block i hi hr)⟩

theorem cols_pos {w : World} (h : Cols w) : 0 < w.heap.size := World.block_lt_of_cell? w _ (h 0 (by decide))
theorem Cols.grown {w w' : World} {r : Option Nat} (h : Cols w) (hg : w.grownBy w' r) (hr : some 0 ≠ r) : Cols w' :=
  fun i hi => (World.cell?_of_block (a := ⟨0, i, none⟩) (hg.block 0 (cols_pos h) hr)).trans (h i hi)

/-- A store stays what it is where another block is written, and none of its own. -/
theorem StoreAt.kept {w w' : World} {t s : Nat} {st : St} (h : StoreAt w t st) (hg : w.grownBy w' (some s)) (hs : 0 < s) (hne : t ≠ s) (hS : ∃ cur, w.heap[s]? = some (.cells cur 62 (0, 0))) : StoreAt w' t st := by
  obtain ⟨hp, ⟨go, capo, nv, B, hb, ho, ⟨cur, hcur⟩, hcap, hr⟩, h1, h2, h3, h4, h5, h6, h7, hc⟩ := h
  obtain ⟨cs, hcs⟩ := hS
  have kept : ∀ k o, w.heap[k]? = some o → k ≠ s → w'.heap[k]? = w.heap[k]? := fun k o hk hks => hg.block k (lt_of_block hk) (by simpa using hks)
  have hgo : go ≠ s := by rintro rfl; rw [hcur] at hcs; simp at hcs
  refine ⟨hp, ⟨go, capo, nv, B, (kept t _ hb hne).trans hb, ?_, ⟨cur, (kept go _ hcur hgo).trans hcur⟩, hcap, ?_⟩, h1, h2, h3, h4, h5, h6, h7, hc.grown hg (by simp; omega)⟩
  · exact fun i hi => (World.cell?_of_block (a := ⟨go, i, none⟩) (kept go _ hcur hgo)).trans (ho i hi)
  · refine owns_kept hr fun g hgb => ?_
    obtain ⟨_, ⟨rfl, _⟩ | ⟨g', cap, cu, rfl, _, h2, _⟩⟩ := hr
    · simp [Value.ownBlock] at hgb
    · obtain rfl : g' = g := by simpa [Value.ownBlock] using hgb
      exact kept g' _ h2 (by rintro rfl; rw [h2] at hcs; simp at hcs)
theorem StoreAt.kept0 {w w' : World} {t : Nat} {st : St} (h : StoreAt w t st) (hg : w.grownBy w' none) : StoreAt w' t st := by
  obtain ⟨hp, ⟨go, capo, nv, B, hb, ho, ⟨cur, hcur⟩, hcap, hr⟩, h1, h2, h3, h4, h5, h6, h7, hc⟩ := h
  have kept : ∀ k o, w.heap[k]? = some o → w'.heap[k]? = w.heap[k]? := fun k o hk => hg.block k (lt_of_block hk) (by simp)
  refine ⟨hp, ⟨go, capo, nv, B, (kept t _ hb).trans hb, ?_, ⟨cur, (kept go _ hcur).trans hcur⟩, hcap, ?_⟩, h1, h2, h3, h4, h5, h6, h7, hc.grown hg (by simp)⟩
  · exact fun i hi => (World.cell?_of_block (a := ⟨go, i, none⟩) (kept go _ hcur)).trans (ho i hi)
  · exact owns_kept hr fun g hgb => hg.block g (hr.lt g hgb).2 (by simp)
theorem StoreAt.below {w w' : World} {t : Nat} {st : St} (h : StoreAt w t st) (hb : Below w.heap.size w w') : StoreAt w' t st := h.kept0 (grown_of_below hb)

set_option maxHeartbeats 400000 in
theorem sfull_calls (s n : Nat) (w : World) (h0 : w.cell? ⟨s, 0, none⟩ = some (.int .i64 n)) (hn : n ≤ 6) :
    Calls Tryz.prog 66 #[.pointer (some ⟨s, 0, none⟩)] w fun e w' => e = .returned (.int .u64 (full n : Nat)) ∧ w' = w := by
  go_enter Tryz.func66, Tryz.ntmps66
  go_wp2_with fail
  refine (full_calls n _ hn).mono ?_
  rintro e w1 ⟨rfl, rfl⟩
  go_wp2_with fail
  go_ret
  exact ⟨rfl, rfl⟩

set_option maxHeartbeats 400000 in
theorem root_yes (s a : Nat) (st : St) (w : World) (h : StoreAt w s st) (hl : st.slot a < 30) :
    Calls Tryz.prog 83 #[.pointer (some ⟨s, 0, none⟩), .int .u32 a] w fun e w' => e = .returned (.tuple #[.int .i64 (st.rs.getD (st.slot a) 0 : Nat), .int .i64 0]) ∧ w' = w := by
  obtain ⟨go, capo, nv, B, hb, -⟩ := h.ex
  have hr : w.cell? ⟨s, 33 + st.slot a, none⟩ = some (.int .i64 (st.rs.getD (st.slot a) 0 : Nat)) := by
    rw [cell_of_block hb, List.getElem?_toArray, at_r h.hs30 h.rs30 _ hl, getD_at (by rw [h.rs30]; exact hl)]
  have hslot := slot_calls s a st _ nv w hb h.hs30
  rw [ixOr_lt hl] at hslot
  have HS : Hid (Calls Tryz.prog 79 #[.pointer (some ⟨s, 0, none⟩), .int .u32 a] w fun e w' => e = .returned (.int .i64 (st.slot a : Nat)) ∧ w' = w) := hslot
  clear hslot h hb
  generalize st.slot a = k at *
  generalize st.rs.getD k 0 = r at *
  go_enter Tryz.func83, Tryz.ntmps83
  go_wp2_with fail
  refine HS.out.mono ?_
  rintro e w1 ⟨rfl, rfl⟩
  go_wp2_with fail
  go_ret2
  exact ⟨rfl, rfl⟩

set_option maxHeartbeats 400000 in
theorem root_no (s a : Nat) (st : St) (w : World) (h : StoreAt w s st) (hl : ¬ st.slot a < 30) :
    Calls Tryz.prog 83 #[.pointer (some ⟨s, 0, none⟩), .int .u32 a] w fun e w' => e = .returned (.tuple #[.int .i64 0, .int .i64 2]) ∧ w' = w := by
  obtain ⟨go, capo, nv, B, hb, -⟩ := h.ex
  have hslot := slot_calls s a st _ nv w hb h.hs30
  rw [ixOr_ge hl] at hslot
  have HS : Hid (Calls Tryz.prog 79 #[.pointer (some ⟨s, 0, none⟩), .int .u32 a] w fun e w' => e = .returned (.int .i64 (-1)) ∧ w' = w) := hslot
  clear hslot h hb
  go_enter Tryz.func83, Tryz.ntmps83
  go_wp2_with fail
  refine HS.out.mono ?_
  rintro e w1 ⟨rfl, rfl⟩
  go_wp2_with fail
  go_ret2
  exact ⟨rfl, rfl⟩
end Go.Proofs.YthoodkbdpnffdabGreatDoor
