/-
  Own work: 'New' makes an empty store whose order is 0, 1, 2, .. (walks).
-/
import Derived.Test.YthoodkbdpnffdaaDoorAddW
import Derived.Test.YthoodkbdpnffdaaDoorPlainG
import Derived.Deep.DeepMust
namespace Go.Proofs.YthoodkbdpnffdaaDoor
open Go.RowKit
open Cho (U64 Tab full col Nd)

theorem Tryd.infoInt : (Tryd.prog.info? 3).map (fun i => (i.zero, i.size, i.bytes)) = some (some (.int .i64 0), 1, 8) := by kernel_rfl

/-- While the order is laid: the two blocks of the call, the order's row. -/
structure Laying (w wr : World) (k : Nat) (ov : Value) : Prop where
  dia : wr.heap[w.heap.size + 1]? = some (.cells #[ov, .slice none 0 0] 91 (0, 0))
  res : wr.heap[w.heap.size]? = some (.cells #[.slice none 0 0, .slice none 0 0] 91 (0, 0))
  row : wr.ownsRow (w.heap.size + 2) 3 1 ov k (lv (List.range k))
  bel : Below w.heap.size w wr

theorem laying_step {w wr w1 : World} {k : Nat} {ov ov' : Value} {o : Obj} (h : Laying w wr k ov) (hr : w1.ownsRow (w.heap.size + 2) 3 1 ov' (k + 1) (lv (List.range k) ++ [.int .i64 k])) (hg : (wr.alloc o).grownBy w1 ov.ownBlock) :
    Laying w (w1.setCell ⟨w.heap.size + 1, 0, none⟩ ov') (k + 1) ov' := by
  have hlt := h.row.lt
  have hs := lt_of_block h.dia
  have n1 : some (w.heap.size + 1) ≠ ov.ownBlock := fun e => by have := (hlt _ e.symm).1; omega
  have n0 : some w.heap.size ≠ ov.ownBlock := fun e => by have := (hlt _ e.symm).1; omega
  have d1 := (hg.block _ (by simp; omega) n1).trans ((Below.heap_alloc _ _ _ hs).trans h.dia)
  have d0 := (hg.block _ (by simp; omega) n0).trans ((Below.heap_alloc _ _ _ (by omega)).trans h.res)
  refine ⟨?_, ?_, ?_, ?_⟩
  · simp only [World.setCell, Array.getElem?_modify, d1]; simp
  · rw [block_set_other (by simp)]; exact d0
  · have e : lv (List.range k) ++ [.int .i64 (k : Int)] = lv (List.range (k + 1)) := by simp [lv, List.range_succ]
    rw [e] at hr
    exact owns_kept hr fun g hgb => block_set_other (by have := (hr.lt g hgb).1; simp; omega)
  · exact ((h.bel.alloc (by omega) o).grown hg (by simp; omega) (fun q hq => by have := (hlt q hq).1; omega)).setCell (by simp) _

theorem laying_mid {w wr w1 : World} {k : Nat} {ov : Value} {o : Obj} (h : Laying w wr k ov) (hg : (wr.alloc o).grownBy w1 ov.ownBlock) : w1.heap[w.heap.size + 1]? = some (.cells #[ov, .slice none 0 0] 91 (0, 0)) := by
  have hlt := h.row.lt
  have hs := lt_of_block h.dia
  have n1 : some (w.heap.size + 1) ≠ ov.ownBlock := fun e => by have := (hlt _ e.symm).1; omega
  exact (hg.block _ (by simp; omega) n1).trans ((Below.heap_alloc _ _ _ hs).trans h.dia)
theorem one_new (w : World) (v : Value) (T : TypeId) : ∀ j u, [v][j]? = some u → (w.alloc (.cells #[v] T)).cell? ((⟨w.heap.size, 0, none⟩ : Addr).add j) = some u := new_cells w [v] T

set_option maxRecDepth 100000 in
set_option maxHeartbeats 400000 in
theorem dnew_calls (n : Nat) (w : World) (h6 : n ≤ 6) :
    Calls Tryd.prog 58 #[.int .i64 n] w fun e w' => ∃ ov, e = .returned (.agg #[ov, .slice none 0 0]) ∧ w'.ownsRow (w.heap.size + 2) 3 1 ov n (lv (List.range n)) ∧ Below w.heap.size w w' := by
  obtain ⟨i0, hi, hz0, hz1, hz2⟩ := info_parts Tryd.infoInt
  go_enter Tryd.func58, Tryd.ntmps58
  go_wp2
  go_loopw [4] (fun i wr => ∃ (k : Nat) (ov : Value), k ≤ n ∧ i = .int .i64 k ∧ Laying w wr k ov) (fun i _ => n - (intOf i).toNat)
  case atStart =>
    refine ⟨0, .slice none 0 0, Nat.zero_le _, rfl, ⟨?_, ?_, ?_, ?_⟩⟩
    · rw [show w.heap.size + 1 = (w.alloc (.cells #[.slice none 0 0, .slice none 0 0] 91)).heap.size from by simp]
      exact heap_res _ _
    · exact (Below.heap_alloc _ _ _ (by simp)).trans (heap_res _ _)
    · exact World.ownsRow_nil _ _ _ _
    · exact ((Below.refl _ _).alloc (Nat.le_refl _) _).alloc (by simp) _
  case round =>
    obtain ⟨k, ov, hk, rfl, hlay⟩ := hrel
    obtain ⟨ao, cap, rfl⟩ := owns_slice hlay.row
    have c0 := cell_of_block hlay.dia 0
    have c1 := cell_of_block hlay.dia 1
    have hsz := lt_of_block hlay.dia
    have HL : Hid (Laying w wr k (.slice ao k cap)) := hlay
    have HROW : Hid ((wr.alloc (.cells #[.int .i64 k] 3)).ownsRow (w.heap.size + 2) 3 1 (.slice ao k cap) k (lv (List.range k))) := hlay.row.alloc _
    clear hlay
    by_cases hkn : k < n
    · have F1 : Hid (k + 1 ≤ maxLen) := by show k + 1 ≤ maxLen; unfold maxLen; omega
      have F2 : Hid ((k + 1) * 8 ≤ 140737488355328) := by show (k + 1) * 8 ≤ 140737488355328; omega
      have F3 : Hid (w.heap.size + 2 ≤ (wr.alloc (.cells #[.int .i64 k] 3)).heap.size) := by show w.heap.size + 2 ≤ (wr.alloc (.cells #[.int .i64 k] 3)).heap.size; simp; omega
      go_wp2_with (at_builtin; go_must (refine wpList_append_own _ rfl (.tmp 16) (.tmp 18) 64 rfl (w.heap.size + 2) 3 i0 _ 1 8 Tryd.underlying64 hi hz0 hz1 hz2 rfl (Nat.succ_pos 0) (.slice ao k cap) k (lv (List.range k)) ?e1 HROW.out ⟨wr.heap.size, 0, none⟩ 1 1 [.int .i64 k] ?e2 rfl (one_new wr _ _) ?e3 F1.out F2.out F3.out ?_); (case e1 => rfl); (case e2 => rfl); (case e3 => simp [Value.oneCell']); intro v' w1 hown hgrow _; obtain ⟨ao2, cap2, rfl⟩ := owns_slice hown; have hm := laying_mid HL.out hgrow; have m0 := cell_of_block hm 0; have mf := frozen_of_block hm 0; have HST : Hid (Laying w (w1.setCell ⟨w.heap.size + 1, 0, none⟩ (.slice ao2 (k + 1) cap2)) (k + 1) (.slice ao2 (k + 1) cap2)) := laying_step HL.out hown hgrow; clear hm hown hgrow)
      exact ⟨⟨k + 1, _, hkn, by go_num, HST.out⟩, by simp [intOf]; omega⟩
    · obtain rfl : k = n := by omega
      have r0 := cell_of_block HL.out.res 0
      have r1 := cell_of_block HL.out.res 1
      have f0 := frozen_of_block HL.out.res 0
      have f1 := frozen_of_block HL.out.res 1
      go_wp2
      refine bodyPost_ret (v := .agg #[.slice ao k cap, .slice none 0 0]) (by simp [results, Tryd.results58, go_sem, r0, r1]) rfl ⟨_, rfl, ?_, ?_⟩
      · exact owns_kept HL.out.row fun g hg => by
          have := (HL.out.row.lt g hg).1
          rw [block_set_other (by simp; omega), block_set_other (by simp; omega)]
      · exact (HL.out.bel.setCell (Nat.le_refl _) _).setCell (Nat.le_refl _) _

/-- An empty store. -/
def St.empty (n room : Nat) : St := { n := n, room := room, given := 0, hs := List.replicate 30 0, rs := List.replicate 30 0, ord := List.range n, ns := [] }

theorem zero_store (w : World) : (zeroValue 93).run Tryd.prog w = .ok (.agg #[.int .i64 0, .int .i64 0, .int .u32 0, .int .u32 0, .int .u32 0, .int .u32 0, .int .u32 0, .int .u32 0, .int .u32 0, .int .u32 0, .int .u32 0, .int .u32 0, .int .u32 0, .int .u32 0, .int .u32 0, .int .u32 0, .int .u32 0, .int .u32 0, .int .u32 0, .int .u32 0, .int .u32 0, .int .u32 0, .int .u32 0, .int .u32 0, .int .u32 0, .int .u32 0, .int .u32 0, .int .u32 0, .int .u32 0, .int .u32 0, .int .u32 0, .int .u32 0, .int .u32 0, .int .i64 0, .int .i64 0, .int .i64 0, .int .i64 0, .int .i64 0, .int .i64 0, .int .i64 0, .int .i64 0, .int .i64 0, .int .i64 0, .int .i64 0, .int .i64 0, .int .i64 0, .int .i64 0, .int .i64 0, .int .i64 0, .int .i64 0, .int .i64 0, .int .i64 0, .int .i64 0, .int .i64 0, .int .i64 0, .int .i64 0, .int .i64 0, .int .i64 0, .int .i64 0, .int .i64 0, .int .i64 0, .int .i64 0, .int .i64 0, .slice none 0 0, .slice none 0 0]) w := by kernel_rfl

theorem new_end {w w1 : World} {n room go capo : Nat} {cur : Array Value} (hbel : Below w.heap.size w w1) (hrow : w1.ownsRow (w.heap.size + 2) 3 1 (.slice (some ⟨go, 0, none⟩) n capo) n (lv (List.range n)))
    (hcur : w1.heap[go]? = some (.cells cur 3 (0, 0))) (hc : Cols w) (h6 : n ≤ 6) (hr4 : room ≤ 4000) :
    StoreAt (w1.alloc (.cells (cellsOf (St.empty n room) (.slice (some ⟨go, 0, none⟩) n capo) (.slice none 0 0)).toArray 93)) w1.heap.size (St.empty n room) := by
  have h0 := cols_pos hc
  have hs := hbel.size
  have hgo := lt_of_block hcur
  have hcap : n ≤ capo := by
    obtain ⟨_, ⟨he, _⟩ | ⟨g, cap, cu, he, _, _, h, _⟩⟩ := hrow
    · simp at he
    · simp at he; omega
  refine ⟨by omega, ⟨go, capo, .slice none 0 0, 0, ?_, ?_, ⟨cur, (Below.heap_alloc _ _ _ hgo).trans hcur⟩, by simpa [St.empty] using hcap, World.ownsRow_nil _ _ _ _⟩, by simp [St.empty], by simp [St.empty], by simp [St.empty], h6, by simp [St.empty], by simp [St.empty], hr4, ?_⟩
  · rw [show (St.empty n room).ord.length = n from by simp [St.empty]]
    exact heap_res _ _
  · intro i hi
    have hin : i < n := by simpa [St.empty] using hi
    rw [cell_alloc_old hgo]
    have := hrow.cells (g := go) rfl i (.int .i64 i) (by simp [lv, hin])
    rw [Addr.add_mid, Nat.zero_add] at this
    rw [this]
    simp [St.empty]
  · intro i hi
    rw [cell_alloc_old (by omega)]
    exact (hc.below hbel h0) i hi

set_option maxRecDepth 100000 in
set_option maxHeartbeats 1000000 in
theorem new_calls (n room : Nat) (w : World) (h1 : 1 ≤ n) (h6 : n ≤ 6) (hr1 : 1 ≤ room) (hr4 : room ≤ 4000) (hc : Cols w) :
    Calls Tryd.prog 29 #[.int .i64 n, .int .i64 room] w fun e w' => ∃ s, e = .returned (.tuple #[.pointer (some ⟨s, 0, none⟩), .int .i64 0]) ∧ StoreAt w' s (St.empty n room) ∧ w.heap.size ≤ s ∧ Below w.heap.size w w' := by
  go_enter Tryd.func29, Tryd.ntmps29
  go_wp2_with fail
  refine (dnew_calls n _ h6).mono ?_
  rintro e w1 ⟨ov, rfl, hrow, hbel⟩
  obtain ⟨go, capo, rfl, hgB, cur, hcur⟩ := owns_form hrow (by omega)
  have hzs := zero_store
  go_wp2_with fail
  go_ret2
  refine ⟨w1.heap.size, rfl, new_end (room := room) hbel hrow hcur hc h6 hr4, hbel.size, hbel.alloc hbel.size _⟩
end Go.Proofs.YthoodkbdpnffdaaDoor

/-
  Own work: what holds of every store that the calls lead to, and what a new function changes (plain mathematics over the store as it lies).
-/
namespace Go.Proofs.YthoodkbdpnffdaaDoor
open Cho (U64 Tab full col Nd Red)

theorem idx_le {l : List Nat} {a j : Nat} (hj : j < l.length) (e : l[j] = a) : l.idxOf a ≤ j := by
  induction l generalizing j with
  | nil => simp at hj
  | cons b l ih =>
    rw [List.idxOf_cons]
    cases hb : b == a
    · cases j with
      | zero => simp at e; simp [e] at hb
      | succ j => have := ih (j := j) (by simpa using hj) (by simpa using e); simp; omega
    · simp
def St.root (st : St) (a : Nat) : Nat := st.rs.getD (st.slot a) 0
def St.live (st : St) (a : Nat) : Prop := st.slot a < 30
def St.tab (st : St) (a : Nat) : Nat := tabTo st.ns (st.root a) (2 ^ st.n)

structure Inv (st : St) : Prop where
  red : Red st.ord st.ns
  nd : st.ord.Nodup
  mem : ∀ v, v ∈ st.ord ↔ v < st.n
  len : st.ord.length = st.n
  n1 : 1 ≤ st.n
  n6 : st.n ≤ 6
  hs30 : st.hs.length = 30
  rs30 : st.rs.length = 30
  rs : ∀ i (h : i < st.rs.length), st.rs[i] < st.ns.length + 2
  hs : ∀ i (h : i < st.hs.length), st.hs[i] ≤ st.given

theorem Inv.ord6 {st : St} (h : Inv st) : ∀ v ∈ st.ord, v < 6 := fun v hv => by have := (h.mem v).1 hv; have := h.n6; omega

theorem slot_lt {st : St} {a : Nat} (h : st.live a) : st.slot a = st.hs.idxOf a ∧ a ≠ 0 := by
  unfold St.live St.slot at *
  split at h
  · omega
  · rename_i h0; rw [if_neg h0]; exact ⟨rfl, h0⟩
theorem Inv.root_lt {st : St} (h : Inv st) {a : Nat} (hl : st.live a) : st.root a < st.ns.length + 2 := by
  have hk : st.slot a < st.rs.length := by rw [h.rs30]; exact hl
  unfold St.root
  rw [getD_at hk]
  exact h.rs _ hk

/-- What a link says at a place hangs on the store's variables alone. -/
theorem ev_mask {st : St} (h : Inv st) (p : Nat) : ∀ l, l < st.ns.length + 2 → Cho.ev st.ns l p = Cho.ev st.ns l (p % 2 ^ st.n) := by
  intro l
  induction l using Nat.strongRecOn with
  | ind l ih =>
    intro hl
    by_cases h2 : l < 2
    · rw [Cho.ev_small _ _ _ h2, Cho.ev_small _ _ _ h2]
    · obtain ⟨k, rfl⟩ : ∃ k, l = k + 2 := ⟨l - 2, by omega⟩
      have hk : k < st.ns.length := by omega
      have hw := h.red.wf k hk
      have hv := (h.mem _).1 (h.red.var st.ns[k] (List.getElem_mem hk))
      rw [Cho.ev_node h.red.wf _ hk, Cho.ev_node h.red.wf _ hk, Nat.testBit_mod_two_pow]
      rw [ih _ (by omega) (by omega), ih _ (by omega) (by omega)]
      simp [hv]

theorem tab_bit (st : St) (a p : Nat) (hp : p < 2 ^ st.n) : (st.tab a).testBit p = Cho.ev st.ns (st.root a) p := tabTo_bit _ _ _ _ hp
theorem tab_tab (st : St) (a : Nat) : Tab st.n (st.tab a) := tabTo_lt _ _ _

theorem same_iff {st : St} (h : Inv st) {a b : Nat} (ha : st.live a) (hb : st.live b) : st.root a = st.root b ↔ st.tab a = st.tab b := by
  constructor
  · intro e; unfold St.tab; rw [e]
  · intro e
    apply Cho.canon h.red (st.root a + st.root b) _ _ (by omega) (by omega) (h.root_lt ha) (h.root_lt hb)
    intro p
    have hp : p % 2 ^ st.n < 2 ^ st.n := Nat.mod_lt _ (Nat.two_pow_pos _)
    rw [ev_mask h p _ (h.root_lt ha), ev_mask h p _ (h.root_lt hb), ← tab_bit st a _ hp, ← tab_bit st b _ hp, e]

theorem inv_empty (n room : Nat) (h1 : 1 ≤ n) (h6 : n ≤ 6) : Inv (St.empty n room) := by
  refine ⟨Cho.Red.nil _, List.nodup_range, by simp [St.empty], by simp [St.empty], h1, h6, by simp [St.empty], by simp [St.empty], ?_, ?_⟩
  · intro i hi
    have : (St.empty n room).rs[i] = 0 := List.getElem_replicate (n := 30) (a := 0) (by simpa [St.empty] using hi)
    omega
  · intro i hi
    have : (St.empty n room).hs[i] = 0 := List.getElem_replicate (n := 30) (a := 0) (by simpa [St.empty] using hi)
    omega

theorem mask_ord {st : St} (h : Inv st) (p : Nat) : Cho.mask st.ord p = p % 2 ^ st.n := by
  apply Nat.eq_of_testBit_eq
  intro i
  rw [Cho.mask_testBit, Nat.testBit_mod_two_pow]
  by_cases hi : i < st.n
  · simp [hi, (h.mem i).2 hi]
  · have : i ∉ st.ord := fun hm => hi ((h.mem i).1 hm)
    simp [hi, this]

/-- What 'add' leaves. -/
structure Added (st : St) (t : Nat) : Prop where
  inv : Inv (st.added t)
  new : (st.added t).live (st.given + 1)
  tab : (st.added t).tab (st.given + 1) = t
  old : ∀ a, st.live a → (st.added t).live a ∧ (st.added t).root a = st.root a ∧ (st.added t).tab a = st.tab a
  len : (st.added t).ns.length ≤ st.ns.length + 63
  pre : ∃ ms, (st.added t).ns = st.ns ++ ms

theorem added {st : St} (h : Inv st) {t : Nat} (ht : Tab st.n t) (hf : st.free < 30) : Added st t := by
  have hu : U64 t := ht.u64 h.n6
  obtain ⟨g, e⟩ := Cho.build_grew h.ord6 h.nd st.ord 0 rfl (Nat.zero_le _) t st.ns hu h.red
  have hlen := Cho.build_len st.ord t st.ns
  have hp := Cho.two_pow_le _ (by rw [h.len]; exact h.n6 : st.ord.length ≤ 6)
  obtain ⟨ms, hms⟩ := g.pre
  have hglt := g.lt
  have hfl : st.free < st.hs.length := by rw [h.hs30]; exact hf
  have hf0 : st.hs[st.free] = 0 := List.getElem_idxOf hfl
  have hle : st.ns.length ≤ (Cho.build st.ord t st.ns).1.length := hlen.1
  have hinv : Inv (st.added t) := by
    refine ⟨g.red, h.nd, h.mem, h.len, h.n1, h.n6, by simp [St.added, h.hs30], by simp [St.added, h.rs30], ?_, ?_⟩
    · intro i hi
      simp only [St.added] at hi ⊢
      rw [List.getElem_set]
      split
      · exact hglt
      · have := h.rs i (by simpa using hi); omega
    · intro i hi
      simp only [St.added] at hi ⊢
      rw [List.getElem_set]
      split
      · exact Nat.le_refl _
      · have := h.hs i (by simpa using hi); omega
  have hnew : (st.added t).slot (st.given + 1) = st.free := by
    unfold St.slot
    rw [if_neg (by omega)]
    apply idx_first (k := st.free) (by simp [St.added, hfl])
    · simp [St.added]
    · intro j hj hjk
      simp only [St.added] at hj ⊢
      rw [List.getElem_set_ne (by omega)]
      have := h.hs j (by simpa using hj); omega
  have hold : ∀ a, st.live a → (st.added t).slot a = st.slot a ∧ st.slot a ≠ st.free := by
    intro a ha
    obtain ⟨e1, e0⟩ := slot_lt ha
    have hk : st.hs.idxOf a < st.hs.length := by rw [← e1, h.hs30]; exact ha
    have hka : st.hs[st.hs.idxOf a] = a := List.getElem_idxOf hk
    have hne : st.slot a ≠ st.free := by
      intro e2
      have : st.hs[st.hs.idxOf a] = st.hs[st.free] := by simp only [← e1, e2]
      rw [hka, hf0] at this; exact e0 this
    refine ⟨?_, hne⟩
    rw [e1] at hne ⊢
    unfold St.slot
    rw [if_neg e0]
    apply idx_first (by simp [St.added]; exact hk)
    · simp only [St.added]; rw [List.getElem_set_ne (Ne.symm hne)]; exact hka
    · intro j hj hjk
      simp only [St.added] at hj ⊢
      by_cases hjf : j = st.free
      · subst hjf
        rw [List.getElem_set_self]
        have := h.hs _ hk
        rw [hka] at this; omega
      · rw [List.getElem_set_ne (Ne.symm hjf)]
        intro e2
        have := idx_le (by simpa using hj) e2
        omega
  have hroot : ∀ a, st.live a → (st.added t).root a = st.root a := by
    intro a ha
    obtain ⟨e1, hne⟩ := hold a ha
    have hk : st.slot a < st.rs.length := by rw [h.rs30]; exact ha
    unfold St.root
    rw [e1, getD_at (by simp [St.added]; exact hk), getD_at hk]
    simp only [St.added]
    rw [List.getElem_set_ne (Ne.symm hne)]
  have hns : (st.added t).ns = st.ns ++ ms := hms
  refine ⟨hinv, by unfold St.live; rw [hnew]; exact hf, ?_, ?_, by simp only [St.added]; omega, ms, hns⟩
  · have hr : (st.added t).root (st.given + 1) = (Cho.build st.ord t st.ns).2 := by
      unfold St.root
      rw [hnew, getD_at (by simp [St.added, h.rs30]; omega)]
      simp [St.added]
    apply Tab.ext (n := st.n) (tab_tab (st.added t) _) ht
    intro p hp
    rw [tab_bit (st.added t) _ p hp, hr]
    have := e p
    rw [mask_ord h, Nat.mod_eq_of_lt hp] at this
    exact this
  · intro a ha
    obtain ⟨e1, hne⟩ := hold a ha
    refine ⟨by unfold St.live; rw [e1]; exact ha, hroot a ha, ?_⟩
    apply Tab.ext (n := st.n) (tab_tab (st.added t) a) (tab_tab st a)
    intro p hp
    rw [tab_bit (st.added t) a p hp, tab_bit st a p hp, hroot a ha, hns]
    exact Cho.ev_append h.red.wf p _ (h.root_lt ha)
end Go.Proofs.YthoodkbdpnffdaaDoor
