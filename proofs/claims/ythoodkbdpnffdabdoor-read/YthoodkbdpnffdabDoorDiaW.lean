/-
  Own work: what each function of package diagram does to the nodes in memory (walks).
-/
import Derived.Test.YthoodkbdpnffdabDoorTabW
import Derived.Test.YthoodkbdpnffdabDoorPlainD
import Derived.Deep.RegionLaw
import Derived.Deep.RegionHeld3
namespace Go.Proofs.YthoodkbdpnffdabDoor
open Go.RowKit
open Cho (U64 Tab full col Nd)

/-- A node's three cells; the cells of a list of nodes. -/
def nodeCells (n : Nd) : List Value := [.int .i64 n.1, .int .i64 n.2.1, .int .i64 n.2.2]
def flat (ns : List Nd) : List Value := ns.flatMap nodeCells
theorem flat_len (ns : List Nd) : (flat ns).length = ns.length * 3 := by
  induction ns with
  | nil => rfl
  | cons n ns ih => simp only [flat, List.flatMap_cons, List.length_append, List.length_cons] at ih ⊢; rw [ih]; simp [nodeCells]; omega
theorem flat_snoc (ns : List Nd) (n : Nd) : flat (ns ++ [n]) = flat ns ++ nodeCells n := by simp [flat]
theorem flat_get (ns : List Nd) (k : Nat) (hk : k < ns.length) (j : Nat) (hj : j < 3) : (flat ns)[k * 3 + j]? = (nodeCells ns[k])[j]? := by
  induction ns generalizing k with
  | nil => simp at hk
  | cons n ns ih =>
    simp only [flat, List.flatMap_cons]
    cases k with
    | zero => rw [List.getElem?_append_left (by simp [nodeCells]; omega)]; simp
    | succ k =>
      rw [List.getElem?_append_right (by simp [nodeCells]; omega)]
      have := ih k (by simpa using hk)
      simp only [flat] at this
      rw [show (k + 1) * 3 + j - (nodeCells n).length = k * 3 + j from by simp [nodeCells]; omega, this]
      simp

/-- A row of nodes that is owned: its cells. -/
theorem row_cell {w : World} {B : Nat} {ns : List Nd} {nv : Value} (h : w.ownsRow B 78 3 nv ns.length (flat ns)) :
    ∃ ao cap, nv = .slice ao ns.length cap ∧ (∀ g, nv.ownBlock = some g → B ≤ g ∧ g < w.heap.size ∧ ∃ cur, w.heap[g]? = some (.cells cur 78 (0, 0))) ∧
      ∀ k (hk : k < ns.length), ∃ g, ao = some ⟨g, 0, none⟩ ∧ g < w.heap.size ∧ ns.length ≤ cap ∧ w.cell? ⟨g, k * 3, none⟩ = some (.int .i64 (ns[k].1 : Nat)) ∧ w.cell? ⟨g, k * 3 + 1, none⟩ = some (.int .i64 (ns[k].2.1 : Nat)) ∧ w.cell? ⟨g, k * 3 + 2, none⟩ = some (.int .i64 (ns[k].2.2 : Nat)) := by
  have hc := fun g => h.cells (g := g)
  have hlt := h.lt
  obtain ⟨_, ⟨rfl, h0⟩ | ⟨g, cap, cur, rfl, hB, hg, hle, _, _, _⟩⟩ := h
  · exact ⟨none, 0, by rw [h0], by simp [Value.ownBlock], fun k hk => by omega⟩
  · have hlt' := hlt g rfl
    refine ⟨_, cap, rfl, fun g' hg' => ?_, fun k hk => ?_⟩
    · obtain rfl : g = g' := by simpa [Value.ownBlock] using hg'
      exact ⟨hB, hlt'.2, cur, hg⟩
    · have hc' := hc g rfl
      have e : ∀ j, (⟨g, 0, none⟩ : Addr).add j = ⟨g, j, none⟩ := fun j => by simp [Addr.add]; exact Eq.symm
      refine ⟨g, rfl, hlt'.2, hle, ?_, ?_, ?_⟩
      · have := hc' (k * 3 + 0) (.int .i64 (ns[k].1 : Nat)) (by rw [flat_get ns k hk 0 (by decide)]; rfl)
        rw [e] at this; exact this
      · have := hc' (k * 3 + 1) (.int .i64 (ns[k].2.1 : Nat)) (by rw [flat_get ns k hk 1 (by decide)]; rfl)
        rw [e] at this; exact this
      · have := hc' (k * 3 + 2) (.int .i64 (ns[k].2.2 : Nat)) (by rw [flat_get ns k hk 2 (by decide)]; rfl)
        rw [e] at this; exact this

theorem cell_of_block {w : World} {b : Nat} {cur : Array Value} {T : TypeId} (h : w.heap[b]? = some (.cells cur T (0, 0))) (j : Nat) : w.cell? ⟨b, j, none⟩ = cur[j]? := by
  simp [World.cell?, h]
theorem frozen_of_block {w : World} {b : Nat} {cur : Array Value} {T : TypeId} (h : w.heap[b]? = some (.cells cur T (0, 0))) (j : Nat) : w.frozen? ⟨b, j, none⟩ = false := by
  simp [World.frozen?, h]
theorem lt_of_block {w : World} {b : Nat} {o : Obj} (h : w.heap[b]? = some o) : b < w.heap.size := by
  by_cases hb : b < w.heap.size
  · exact hb
  · rw [Array.getElem?_eq_none (by omega)] at h; cases h


/-- 'append' onto a row that is owned, as one step of a region that draws its order. -/
theorem step_append_own {P : Program} {ops : Array Oper} {o : Oper} {a : Act} {w : World} {K : Act → World → Prop} {Q : Exit → Act → World → Prop} {E : Prop}
    (hg : o.guard = none) (s x : Operand) (t : TypeId) (hop : o.op = Op.call { callee := Callee.builtin Builtin.append, args := #[s, x], argTypes := #[t, t] })
    (base : Nat) (e : TypeId) (i : TypeInfo) (z : Value) (size bytes : Nat) (ht : P.underlying t = some (.slice e)) (hi : P.info? e = some i) (hz : i.zero = some z)
    (hsize : i.size = size) (hby : i.bytes = bytes) (hzs : z.cells.size = size) (hsz : 0 < size)
    (v : Value) (n : Nat) (xs : List Value) (hs : a.eval s = v) (hown : w.ownsRow base e size v n xs)
    (ad : Addr) (m c : Nat) (news : List Value) (hx : a.eval x = .slice (some ad) m c) (hl : news.length = m * size) (hnews : ∀ j u, news[j]? = some u → w.cell? (ad.add j) = some u) (h1 : ∀ u ∈ news, u.oneCell' = true)
    (h63 : n + m ≤ maxLen) (hbytes : (n + m) * bytes ≤ 140737488355328) (hbase : base ≤ w.heap.size)
    (hK : ∀ v' w', w'.ownsRow base e size v' (n + m) (xs ++ news) → w.grownBy w' v.ownBlock → K (a.put o.dst v') w') :
    if Region.wanted o (yielded ops a.tmps) = true then Oper.wp P o a w K Q else E := by
  have hw : Region.wanted o (yielded ops a.tmps) = true := by simp [Region.wanted, hg]
  rw [if_pos hw]
  exact wp_append_own w s x t hop base e i z size bytes ht hi hz hsize hby hzs hsz v n xs hs hown ad m c news hx hl hnews h1 h63 hbytes hbase fun v' w' h2 h3 _ => hK v' w' h2 h3

theorem cell_alloc_old {w : World} {b : Nat} (h : b < w.heap.size) (o : Obj) (j : Nat) : (w.alloc o).cell? ⟨b, j, none⟩ = w.cell? ⟨b, j, none⟩ :=
  World.cell?_of_block (Below.heap_alloc w o b h)
/-- An owned row stays one where its block is as it was. -/
theorem owns_kept {w w' : World} {B : Nat} {e : TypeId} {sz : Nat} {v : Value} {n : Nat} {xs : List Value} (h : w.ownsRow B e sz v n xs) (hk : ∀ g, v.ownBlock = some g → w'.heap[g]? = w.heap[g]?) : w'.ownsRow B e sz v n xs := by
  obtain ⟨hl, h | ⟨g, cap, cur, rfl, h1, h2, h3⟩⟩ := h
  · exact ⟨hl, .inl h⟩
  · exact ⟨hl, .inr ⟨g, cap, cur, rfl, h1, (hk g rfl).trans h2, h3⟩⟩
theorem owns_form {w : World} {B : Nat} {e : TypeId} {sz : Nat} {v : Value} {n : Nat} {xs : List Value} (h : w.ownsRow B e sz v n xs) (hn : 0 < n) :
    ∃ g cap, v = .slice (some ⟨g, 0, none⟩) n cap ∧ B ≤ g ∧ ∃ cur, w.heap[g]? = some (.cells cur e (0, 0)) := by
  obtain ⟨hl, h | ⟨g, cap, cur, rfl, h1, h2, h3⟩⟩ := h
  · omega
  · exact ⟨g, cap, rfl, h1, cur, h2⟩
theorem Tryd.infoNode : (Tryd.prog.info? 78).map (fun i => (i.zero, i.size, i.bytes)) = some (some (.agg #[.int .i64 0, .int .i64 0, .int .i64 0]), 3, 24) := by kernel_rfl
/-- A store into a block of two cells. -/
theorem block_set1 {w : World} {b : Nat} {x y z : Value} {T : TypeId} (h : w.heap[b]? = some (.cells #[x, y] T (0, 0))) : (w.setCell ⟨b, 1, none⟩ z).heap[b]? = some (.cells #[x, z] T (0, 0)) := by
  simp only [World.setCell, Array.getElem?_modify, h]; simp
theorem block_set_other {w : World} {b : Nat} {a : Addr} {z : Value} (h : b ≠ a.block) : (w.setCell a z).heap[b]? = w.heap[b]? := Below.heap_setCell w a z b h

/-- What is no row of nodes and not the block b stays as it is. -/
def Kd (b : Nat) (w w' : World) : Prop := ∀ k c T, w.heap[k]? = some (.cells c T (0, 0)) → T ≠ 78 → k ≠ b → w'.heap[k]? = w.heap[k]?
theorem Kd.of_below {b : Nat} {w w' : World} (h : Below w.heap.size w w') : Kd b w w' := fun k _ _ hk _ _ => h.block k (lt_of_block hk)
theorem Kd.trans {b : Nat} {w w1 w2 : World} (h : Kd b w w1) (k : Kd b w1 w2) : Kd b w w2 := fun q c T hq hT hb => by
  have h1 := h q c T hq hT hb
  exact (k q c T (h1.trans hq) hT hb).trans h1
theorem kd_join {b : Nat} {w wr w1 : World} {v v' : Value} {o : Obj} (hbel : Below w.heap.size w wr) (hown : ∀ g, v.ownBlock = some g → ∃ cur, w.heap[g]? = some (.cells cur 78 (0, 0))) (hg : (wr.alloc o).drew.grownBy w1 v.ownBlock) : Kd b w (w1.setCell ⟨b, 1, none⟩ v') := by
  intro k c T hk hT hb
  have hkw := lt_of_block hk
  have hs := hbel.size
  have hne : some k ≠ v.ownBlock := by
    intro e
    obtain ⟨cur, hcur⟩ := hown k e.symm
    rw [hk] at hcur
    simp at hcur
    exact hT hcur.2
  rw [block_set_other hb]
  exact (hg.block k (by simp; omega) hne).trans ((Below.heap_alloc _ _ _ (by omega)).trans (hbel.block k hkw))

set_option maxHeartbeats 400000 in
theorem join_same (b v l : Nat) (w : World) :
    Calls Tryd.prog 42 #[.pointer (some ⟨b, 0, none⟩), .agg #[.int .i64 v, .int .i64 l, .int .i64 l]] w fun e w' =>
      e = .returned (.int .i64 l) ∧ Below w.heap.size w w' := by
  go_enter Tryd.func42, Tryd.ntmps42
  go_wp2
  go_ret
  exact ⟨rfl, (Below.refl _ _).alloc (Nat.le_refl _) _⟩

theorem join_keeps {w w1 : World} {b : Nat} {r : Option Nat} {o : Obj} (hg : w.drew.grownBy w1 r) (hb : w.heap[b]? = some o) (hbg : some b ≠ r) : w1.heap[b]? = some o :=
  (hg.block b (lt_of_block (w := w) hb) hbg).trans hb
theorem new_cells (w : World) (l : List Value) (T : TypeId) : ∀ j u, l[j]? = some u → (w.alloc (.cells l.toArray T)).cell? ((⟨w.heap.size, 0, none⟩ : Addr).add j) = some u := by
  intro j u h
  have e : (⟨w.heap.size, 0, none⟩ : Addr).add j = ⟨w.heap.size, j, none⟩ := by simp [Addr.add]; exact Eq.symm
  rw [e]
  simp [h]

set_option maxHeartbeats 400000 in
theorem join_diff (B b : Nat) (ov nv : Value) (ns : List Nd) (n : Nd) (w : World) (hn : n.2.1 ≠ n.2.2) (hB : B ≤ b)
    (hb : w.heap[b]? = some (.cells #[ov, nv] 51 (0, 0)))
    (hr : w.ownsRow B 78 3 nv ns.length (flat ns)) (hl : ns.length ≤ 1000000) :
    Calls Tryd.prog 42 #[.pointer (some ⟨b, 0, none⟩), .agg #[.int .i64 n.1, .int .i64 n.2.1, .int .i64 n.2.2]] w fun e w' =>
      e = .returned (.int .i64 (Cho.join ns n).2) ∧ ∃ nv', w'.heap[b]? = some (.cells #[ov, nv'] 51 (0, 0)) ∧
        w'.ownsRow B 78 3 nv' (Cho.join ns n).1.length (flat (Cho.join ns n).1) ∧ Below B w w' ∧ Kd b w w' := by
  obtain ⟨v, no, yes⟩ := n
  have hlt := lt_of_block hb
  have c1 : w.cell? ⟨b, 1, none⟩ = some nv := cell_of_block hb 1
  have hn' : ((no : Int) == (yes : Int)) = false := by simp at hn ⊢; omega
  obtain ⟨ao, cap, rfl, hblk, hcells⟩ := row_cell hr
  have hbg : some b ≠ (Value.slice ao ns.length cap).ownBlock := by
    intro e
    obtain ⟨_, _, cur, hcur⟩ := hblk b e.symm
    rw [hb] at hcur
    simp at hcur
  go_enter Tryd.func42, Tryd.ntmps42
  go_wp2
  go_loopw [19] (fun i wr => ∃ k : Nat, k ≤ ns.length ∧ i = .int .i64 k ∧ (∀ j (hj : j < ns.length), j < k → ns[j] ≠ (v, no, yes)) ∧
      Below (w.heap.size + 1) (w.alloc (.cells #[.int .i64 v, .int .i64 no, .int .i64 yes] 78)) wr)
    (fun i _ => ns.length - (intOf i).toNat)
  case atStart => exact ⟨0, Nat.zero_le _, rfl, fun _ _ h => absurd h (Nat.not_lt_zero _), Below.refl _ _⟩
  case round =>
    obtain ⟨k, hk, rfl, hno, hbel⟩ := hrel
    have cb := fun bb oo (h : bb < w.heap.size + 1) => hbel.cell (p := ⟨bb, oo, none⟩) h
    have d0 : wr.cell? ⟨w.heap.size, 0, none⟩ = some (.int .i64 v) := by rw [cb _ _ (by omega)]; simp
    have d1 : wr.cell? ⟨w.heap.size, 1, none⟩ = some (.int .i64 no) := by rw [cb _ _ (by omega)]; simp
    have d2 : wr.cell? ⟨w.heap.size, 2, none⟩ = some (.int .i64 yes) := by rw [cb _ _ (by omega)]; simp
    have hsz : w.heap.size < wr.heap.size := by have := hbel.size; simp at this; omega
    have hold : ∀ k, k < w.heap.size → wr.heap[k]? = w.heap[k]? := fun k hk => (hbel.block k (by omega)).trans (Below.heap_alloc _ _ _ hk)
    have HKB : Hid (Below w.heap.size w wr) := ((Below.refl _ w).alloc (Nat.le_refl _) _).trans (hbel.mono (by omega))
    have HKO : Hid (∀ g, (Value.slice ao ns.length cap).ownBlock = some g → ∃ cur, w.heap[g]? = some (.cells cur 78 (0, 0))) := fun g hg => (hblk g hg).2.2
    have HBEL : Hid (Below B w wr) := ((Below.refl _ w).alloc (Nat.le_of_lt (Nat.lt_of_le_of_lt hB hlt)) _).trans (hbel.mono (by omega))
    have hbw := (hold b hlt).trans hb
    have hr' : wr.ownsRow B 78 3 (.slice ao ns.length cap) ns.length (flat ns) := owns_kept hr fun g' hg' => hold g' (hblk g' hg').2.1
    have HBW : Hid (wr.heap[b]? = some (.cells #[ov, .slice ao ns.length cap] 51 (0, 0))) := hbw
    have HR : Hid (wr.ownsRow B 78 3 (.slice ao ns.length cap) ns.length (flat ns)) := hr'
    have HBLK : Hid (∀ g, (Value.slice ao ns.length cap).ownBlock = some g → B ≤ g) := fun g hg => (hblk g hg).1
    have HBG : Hid (some b ≠ (Value.slice ao ns.length cap).ownBlock) := hbg
    clear hold hr hb hblk c1 hbg
    by_cases hkl : k < ns.length
    · obtain ⟨g, hao, hgw, hcap, g0, g1, g2⟩ := hcells k hkl
      have e0 : wr.cell? ⟨g, k * 3, none⟩ = some (.int .i64 (ns[k].1 : Nat)) := by rw [cb _ _ (by omega), ← g0]; exact cell_alloc_old hgw _ _
      have e1 : wr.cell? ⟨g, k * 3 + 1, none⟩ = some (.int .i64 (ns[k].2.1 : Nat)) := by rw [cb _ _ (by omega), ← g1]; exact cell_alloc_old hgw _ _
      have e2 : wr.cell? ⟨g, k * 3 + 2, none⟩ = some (.int .i64 (ns[k].2.2 : Nat)) := by rw [cb _ _ (by omega), ← g2]; exact cell_alloc_old hgw _ _
      clear g0 g1 g2 hcells cb hbw hr'
      generalize hq : ns[k] = q at *
      obtain ⟨q0, q1, q2⟩ := q
      simp only at e0 e1 e2
      have HQ : Hid (ns[k] = (q0, q1, q2)) := hq
      clear hq
      subst hao
      by_cases hc : q0 = v ∧ q1 = no ∧ q2 = yes
      · obtain ⟨rfl, rfl, rfl⟩ := hc
        have HJ : Hid (Cho.join ns (q0, q1, q2) = (ns, k + 2)) := Cho.join_found hn hkl HQ.out hno
        go_wp2
        go_ret
        rw [HJ.out]
        refine ⟨ret_int (by omega), .slice (some ⟨g, 0, none⟩) ns.length cap, ?_, ?_, ?_, Kd.of_below (HKB.out.alloc (by omega) _)⟩
        · exact (Below.heap_alloc _ _ _ (by omega)).trans HBW.out
        · exact HR.out.alloc _
        · exact HBEL.out.alloc (by omega) _
      · have HX : Hid (ns[k] ≠ (v, no, yes)) := by
          show ns[k] ≠ (v, no, yes)
          rw [HQ.out]; intro e; simp only [Prod.mk.injEq] at e; exact hc e
        go_wp2
        all_goals
          refine ⟨⟨k + 1, hkl, by go_num, ?_, hbel.alloc (by omega) _⟩, by simp [intOf]; omega⟩
          intro j hj hjk
          by_cases ejk : j = k
          · subst ejk; exact HX.out
          · exact hno j hj (by omega)
    · have HJ : Hid (Cho.join ns (v, no, yes) = (ns ++ [(v, no, yes)], ns.length + 2)) := Cho.join_new hn fun j hj => hno j hj (by omega)
      have cb1 : wr.cell? ⟨b, 1, none⟩ = some (.slice ao ns.length cap) := cell_of_block hbw 1
      have hbwr : b < wr.heap.size := by omega
      obtain ⟨i0, hi, hz0, hz1, hz2⟩ := info_parts Tryd.infoNode
      have HO : Hid (((wr.alloc (.cells #[.int .i64 v, .int .i64 no, .int .i64 yes] 78)).drew).ownsRow B 78 3 (.slice ao ns.length cap) ns.length (flat ns)) := hr'.alloc _
      have HNEW : Hid (∀ j u, (nodeCells (v, no, yes))[j]? = some u → ((wr.alloc (.cells #[.int .i64 v, .int .i64 no, .int .i64 yes] 78)).drew).cell? ((⟨wr.heap.size, 0, none⟩ : Addr).add j) = some u) := new_cells wr (nodeCells (v, no, yes)) 78
      have HBA : Hid ((wr.alloc (.cells #[.int .i64 v, .int .i64 no, .int .i64 yes] 78)).heap[b]? = some (.cells #[ov, .slice ao ns.length cap] 51 (0, 0))) := (Below.heap_alloc _ _ _ (by omega)).trans hbw
      clear hcells hr' cb hno hbw hbel
      go_wp2
      go_region_law (refine step_append_own rfl (.tmp 34) (.tmp 36) 49 rfl B 78 i0 _ 3 24 Tryd.underlying49 hi hz0 hz1 hz2 rfl (by decide) _ ns.length (flat ns) (by simp [Act.eval]) HO.out ⟨wr.heap.size, 0, none⟩ 1 1 (nodeCells (v, no, yes)) (by simp [Act.eval]) rfl HNEW.out (by simp [nodeCells, Value.oneCell']) (by unfold maxLen; omega) (by omega) (by simp; omega) ?_; intro v' w1 hown2 hgrow; obtain ⟨g2, cap2, rfl, hB2, hcur2⟩ := owns_form hown2 (by omega); have hb1 := join_keeps hgrow HBA.out HBG.out; have cc1 := cell_of_block hb1 1; have ff1 := frozen_of_block hb1 1; have HG : Hid (_ ∧ _ ∧ _) := ⟨hgrow, hown2, hb1⟩; clear hgrow hown2 hb1)
      all_goals
        go_wp2
        go_ret
        obtain ⟨hgrow, hown2, hb1⟩ := HG.out
        rw [HJ.out]
        refine ⟨ret_int (by omega), _, block_set1 hb1, ?_, ?_, kd_join HKB.out HKO.out hgrow⟩
        · rw [List.length_append, flat_snoc]
          exact owns_kept hown2 fun g' hg' => block_set_other (by
            obtain rfl : g2 = g' := by simpa [Value.ownBlock] using hg'
            rintro rfl
            obtain ⟨cur, hcur⟩ := hcur2
            rw [hb1] at hcur
            simp at hcur)
        · exact ((HBEL.out.alloc (by omega) _).drew.grown hgrow (by simp; omega) (fun k hk => HBLK.out k hk)).setCell hB _

/-- 'join': as the plain function does it. -/
theorem djoin_calls (B b : Nat) (ov nv : Value) (ns : List Nd) (v no yes : Nat) (w : World) (hB : B ≤ b)
    (hb : w.heap[b]? = some (.cells #[ov, nv] 51 (0, 0)))
    (hr : w.ownsRow B 78 3 nv ns.length (flat ns)) (hl : ns.length ≤ 1000000) :
    Calls Tryd.prog 42 #[.pointer (some ⟨b, 0, none⟩), .agg #[.int .i64 v, .int .i64 no, .int .i64 yes]] w fun e w' =>
      e = .returned (.int .i64 (Cho.join ns (v, no, yes)).2) ∧ ∃ nv', w'.heap[b]? = some (.cells #[ov, nv'] 51 (0, 0)) ∧
        w'.ownsRow B 78 3 nv' (Cho.join ns (v, no, yes)).1.length (flat (Cho.join ns (v, no, yes)).1) ∧ Below B w w' ∧ Kd b w w' := by
  by_cases h : no = yes
  · subst h
    have e : Cho.join ns (v, no, no) = (ns, no) := by simp [Cho.join]
    rw [e]
    refine (join_same b v no w).mono ?_
    rintro e w' ⟨rfl, hbel⟩
    have hlt := lt_of_block hb
    exact ⟨rfl, nv, (hbel.block b hlt).trans hb, owns_kept hr fun g' hg' => hbel.block g' (hr.lt g' hg').2, hbel.mono (by omega), Kd.of_below hbel⟩
  · exact join_diff B b ov nv ns (v, no, yes) w h hB hb hr hl
end Go.Proofs.YthoodkbdpnffdabDoor
