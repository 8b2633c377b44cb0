/-
  Own work: 'Support' of a link is the set of the variables that its function hangs on (a walk, and plain mathematics).
-/
import Derived.Test.YthoodkbdpnffdaaDoorReachW
import Derived.Test.YthoodkbdpnffdaaDoorInv
namespace Go.Proofs.YthoodkbdpnffdaaDoor
open Go.RowKit
open Cho (U64 Tab full col Nd Red)

/-- The variables of the nodes that are marked, of the first k. -/
def supTo (ns : List Nd) (b : List Bool) : Nat → Nat
  | 0 => 0
  | k + 1 => if b.getD (k + 2) false then supTo ns b k ||| 2 ^ (ns.getD k (0, 0, 0)).1 else supTo ns b k
theorem supTo_lt (ns : List Nd) (b : List Bool) (hv : ∀ n ∈ ns, n.1 < 6) (k : Nat) (hk : k ≤ ns.length) : supTo ns b k < 256 := by
  induction k with
  | zero => simp [supTo]
  | succ k ih =>
    simp only [supTo]; split
    · have hn : ns.getD k (0, 0, 0) = ns[k] := by simp [List.getD, show k < ns.length by omega]
      have := hv ns[k] (List.getElem_mem _)
      rw [hn]
      exact Nat.or_lt_two_pow (n := 8) (ih (by omega)) (Nat.pow_lt_pow_right (by decide) (by omega))
    · exact ih (by omega)
theorem supTo_bit (ns : List Nd) (b : List Bool) (k i : Nat) (hk : k ≤ ns.length) : (supTo ns b k).testBit i = true ↔ ∃ j, ∃ hj : j < ns.length, j < k ∧ b.getD (j + 2) false = true ∧ ns[j].1 = i := by
  induction k with
  | zero => simp [supTo]
  | succ k ih =>
    have hn : ns.getD k (0, 0, 0) = ns[k] := by simp [List.getD, show k < ns.length by omega]
    simp only [supTo]
    split
    · rename_i hb
      rw [Nat.testBit_or, hn, Nat.testBit_two_pow, Bool.or_eq_true, ih (by omega)]
      constructor
      · rintro (⟨j, hj, h1, h2, h3⟩ | h)
        · exact ⟨j, hj, by omega, h2, h3⟩
        · exact ⟨k, by omega, by omega, hb, by simpa using h⟩
      · rintro ⟨j, hj, h1, h2, h3⟩
        by_cases e : j = k
        · subst e; right; simpa using h3
        · left; exact ⟨j, hj, by omega, h2, h3⟩
    · rename_i hb
      rw [ih (by omega)]
      constructor
      · rintro ⟨j, hj, h1, h2, h3⟩; exact ⟨j, hj, by omega, h2, h3⟩
      · rintro ⟨j, hj, h1, h2, h3⟩
        by_cases e : j = k
        · subst e; exact absurd h2 (by simpa using hb)
        · exact ⟨j, hj, by omega, h2, h3⟩

theorem put_comm (p i j : Nat) (a b : Bool) (h : i ≠ j) : Cho.put (Cho.put p i a) j b = Cho.put (Cho.put p j b) i a := by
  apply Nat.eq_of_testBit_eq
  intro q
  simp only [Cho.put_testBit]
  by_cases h1 : q = i <;> by_cases h2 : q = j <;> simp_all

/-- A function hangs on just the variables that its nodes ask for. -/
theorem hangs_iff {ord : List Nat} {ns : List Nd} (h : Red ord ns) (l i : Nat) (hl : l < ns.length + 2) :
    (∃ k, ∃ hk : k < ns.length, Cho.Reach ns [l] (k + 2) ∧ ns[k].1 = i) ↔ ¬ ∀ p b, Cho.ev ns l (Cho.put p i b) = Cho.ev ns l p := by
  constructor
  · rintro ⟨k, hk, hr, hi⟩ hind
    have hbase : ∀ m ∈ [l], m < ns.length + 2 ∧ ∀ p b, Cho.ev ns m (Cho.put p i b) = Cho.ev ns m p := by
      intro m hm
      obtain rfl : m = l := by simpa using hm
      exact ⟨hl, hind⟩
    have hS := hr (fun l => l < ns.length + 2 ∧ ∀ p b, Cho.ev ns l (Cho.put p i b) = Cho.ev ns l p) hbase (fun k hk hS => ?_)
    · -- the node itself
      have hw := h.wf k hk
      have hlow := h.low k hk
      have hv := h.var ns[k] (List.getElem_mem hk)
      apply h.diff k hk
      apply Cho.canon h _ _ _ (Nat.le_max_left _ _) (Nat.le_max_right _ _) (by omega) (by omega)
      intro p
      have e0 := hS.2 p false
      have e1 := hS.2 p true
      rw [Cho.ev_node h.wf _ hk, hi, Cho.put_testBit, if_pos rfl] at e0 e1
      simp only [Bool.false_eq_true, if_false, if_true] at e0 e1
      rw [← hi, Cho.ev_indep h p _ _ _ (by omega) hlow.1 hv] at e0
      rw [← hi, Cho.ev_indep h p _ _ _ (by omega) hlow.2 hv] at e1
      rw [e0, e1]
    · have hw := h.wf k hk
      have hlow := h.low k hk
      have hv := h.var ns[k] (List.getElem_mem hk)
      have hne : ns[k].1 ≠ i := by
        intro hi
        apply h.diff k hk
        apply Cho.canon h _ _ _ (Nat.le_max_left _ _) (Nat.le_max_right _ _) (by omega) (by omega)
        intro p
        have e0 := hS.2 p false
        have e1 := hS.2 p true
        rw [Cho.ev_node h.wf _ hk, hi, Cho.put_testBit, if_pos rfl] at e0 e1
        simp only [Bool.false_eq_true, if_false, if_true] at e0 e1
        rw [← hi, Cho.ev_indep h p _ _ _ (by omega) hlow.1 hv] at e0
        rw [← hi, Cho.ev_indep h p _ _ _ (by omega) hlow.2 hv] at e1
        rw [e0, e1]
      have part : ∀ (c : Bool) p b, (if c then Cho.ev ns ns[k].2.2 (Cho.put p i b) else Cho.ev ns ns[k].2.1 (Cho.put p i b)) = (if c then Cho.ev ns ns[k].2.2 p else Cho.ev ns ns[k].2.1 p) := by
        intro c p b
        have e := hS.2 (Cho.put p ns[k].1 c) b
        rw [put_comm _ _ _ _ _ hne, Cho.ev_node h.wf _ hk, Cho.ev_node h.wf _ hk, Cho.put_testBit, if_pos rfl, Cho.put_testBit, if_pos rfl] at e
        rw [Cho.ev_indep h _ _ _ ns[k].2.1 (by omega) hlow.1 hv, Cho.ev_indep h _ _ _ ns[k].2.2 (by omega) hlow.2 hv] at e
        rw [Cho.ev_indep h _ _ _ ns[k].2.1 (by omega) hlow.1 hv, Cho.ev_indep h _ _ _ ns[k].2.2 (by omega) hlow.2 hv] at e
        exact e
      exact ⟨⟨by omega, fun p b => by simpa using part false p b⟩, ⟨by omega, fun p b => by simpa using part true p b⟩⟩
  · intro hn
    apply Classical.byContradiction
    intro hno
    apply hn
    have hno' : ∀ k (hk : k < ns.length), Cho.Reach ns [l] (k + 2) → ns[k].1 ≠ i := fun k hk hr hi => hno ⟨k, hk, hr, hi⟩
    have key : ∀ m, m < ns.length + 2 → Cho.Reach ns [l] m → ∀ p b, Cho.ev ns m (Cho.put p i b) = Cho.ev ns m p := by
      intro m
      induction m using Nat.strongRecOn with
      | ind m ih =>
        intro hm hr p b
        by_cases h2 : m < 2
        · rw [Cho.ev_small _ _ _ h2, Cho.ev_small _ _ _ h2]
        · obtain ⟨k, rfl⟩ : ∃ k, m = k + 2 := ⟨m - 2, by omega⟩
          have hk : k < ns.length := by omega
          have hw := h.wf k hk
          have hne := hno' k hk hr
          have r1 : Cho.Reach ns [l] ns[k].2.1 := fun S a b => (b k hk (hr S a b)).1
          have r2 : Cho.Reach ns [l] ns[k].2.2 := fun S a b => (b k hk (hr S a b)).2
          rw [Cho.ev_node h.wf _ hk, Cho.ev_node h.wf _ hk, Cho.put_testBit, if_neg hne]
          rw [ih _ (by omega) (by omega) r1, ih _ (by omega) (by omega) r2]
    exact key l hl (fun S a _ => a l (by simp))

theorem bit_or8 (a v : Nat) (ha : a < 256) (hv : v < 6) : bits .or .u8 (a : Int) (IntKind.u8.wrap (2 ^ v)) = ((a ||| 2 ^ v : Nat) : Int) := by
  have h : (2 : Nat) ^ v < 256 := Nat.lt_of_lt_of_le (Nat.pow_lt_pow_right (by decide) hv) (by decide)
  have e : IntKind.u8.wrap (2 ^ v) = ((2 ^ v : Nat) : Int) := by
    rw [IntKind.wrap_u8', show ((2 : Int) ^ v) = ((2 ^ v : Nat) : Int) from by simp, show (256 : Int) = ((256 : Nat) : Int) from rfl, ← Int.natCast_emod, Nat.mod_eq_of_lt h]
  rw [e, u8_or_nat a (2 ^ v) ha h]

set_option maxHeartbeats 1000000 in
theorem dsupport_calls (s off B : Nat) (ns : List Nd) (nv : Value) (l : Nat) (w : World) (h1 : w.cell? ⟨s, off + 1, none⟩ = some nv) (hr : w.ownsRow B 122 3 nv ns.length (flat ns))
    (hw : Cho.Wf ns) (hv : ∀ n ∈ ns, n.1 < 6) (hl : l < ns.length + 2) (hn : ns.length ≤ 1000000) :
    Calls Tryd.prog 49 #[.pointer (some ⟨s, off, none⟩), .int .i64 l] w fun e w' => e = .returned (.int .u8 (supTo ns (Cho.reached ns [l]) ns.length : Nat)) ∧ Below w.heap.size w w' := by
  have hs := World.block_lt_of_cell? w _ h1
  simp only at hs
  obtain ⟨ao, cap, rfl, hblk, hcells⟩ := row_cell hr
  have HCELLS : Hid (∀ k (hk : k < ns.length), ∃ g, ao = some ⟨g, 0, none⟩ ∧ g < w.heap.size ∧ ns.length ≤ cap ∧ w.cell? ⟨g, k * 3, none⟩ = some (.int .i64 (ns[k].1 : Nat)) ∧ w.cell? ⟨g, k * 3 + 1, none⟩ = some (.int .i64 (ns[k].2.1 : Nat)) ∧ w.cell? ⟨g, k * 3 + 2, none⟩ = some (.int .i64 (ns[k].2.2 : Nat))) := hcells
  have HR : Hid (w.ownsRow B 122 3 (.slice ao ns.length cap) ns.length (flat ns)) := hr
  have HW : Hid (Cho.Wf ns) := hw
  have HV : Hid (∀ n ∈ ns, n.1 < 6) := hv
  clear hr hblk hcells hw hv
  go_enter Tryd.func49, Tryd.ntmps49
  go_wp2_with fail
  have hb1 : Below w.heap.size w (w.alloc (.cells #[.int .i64 l] 81)) := (Below.refl _ _).alloc (Nat.le_refl _) _
  refine (reached_calls s off B w.heap.size 0 1 ns _ [l] _ ((hb1.cell (p := ⟨s, off + 1, none⟩) hs).trans h1) (HR.out.alloc _) (fun i hi => ?_) (by simp) (by simpa using hl) HW.out hn (by simp)).mono ?_
  · obtain rfl : i = 0 := by simpa using hi
    simp
  rintro e w1 ⟨rfl, hm⟩
  have hlen1 : (w.alloc (.cells #[.int .i64 l] 81)).heap.size = w.heap.size + 1 := by simp
  have HM : Hid (Marks (w.alloc (.cells #[.int .i64 l] 81)) w1 (Cho.reached ns [l]) ns.length) := hm
  have hbw : Below w.heap.size w w1 := hb1.trans (hm.bel.mono (by rw [hlen1]; omega))
  have hsz1 : w.heap.size + 1 < w1.heap.size := by have := lt_of_block hm.at'; rw [hlen1] at this; exact this
  rw [hlen1]
  have c1 : w1.cell? ⟨s, off + 1, none⟩ = some (.slice ao ns.length cap) := (hbw.cell (p := ⟨s, off + 1, none⟩) hs).trans h1
  have HMC : Hid (∀ k, k < ns.length → w1.cell? ⟨w.heap.size + 1, 2 + k, none⟩ = some (.bool ((Cho.reached ns [l]).getD (k + 2) false))) := fun k hk => by
    have := hm.cell (2 + k) (by omega)
    rw [hlen1, Nat.add_comm 2 k] at this
    rw [Nat.add_comm 2 k]; exact this
  have HB1 : Hid (Below w.heap.size w w1) := hbw
  clear hm HM hb1 hlen1 hbw
  generalize hR : Cho.reached ns [l] = R at *
  have HRR : Hid (Cho.reached ns [l] = R) := hR
  clear hR
  go_wp2_with fail
  go_loopw [5, 18] (fun x i wr => ∃ k : Nat, k ≤ ns.length ∧ i = .int .i64 k ∧ x = .int .u8 (supTo ns R k : Nat) ∧ Below w1.heap.size w1 wr) (fun _ i _ => ns.length - (intOf i).toNat)
  case atStart => exact ⟨0, Nat.zero_le _, rfl, rfl, Below.refl _ _⟩
  case round =>
    obtain ⟨k, hk, rfl, rfl, hbel⟩ := hrel
    by_cases hkn : k < ns.length
    · obtain ⟨g, hao, hgw, hcap, g0, g1, g2⟩ := HCELLS.out k hkn
      have hgw1 : g < w1.heap.size := by omega
      have old : ∀ b j, b < w.heap.size → wr.cell? ⟨b, j, none⟩ = w.cell? ⟨b, j, none⟩ := fun b j hb => (hbel.cell (p := ⟨b, j, none⟩) (show b < w1.heap.size by omega)).trans (HB1.out.cell (p := ⟨b, j, none⟩) hb)
      have e0 := (old g (k * 3) hgw).trans g0
      have e1 := (old g (k * 3 + 1) hgw).trans g1
      have e2 := (old g (k * 3 + 2) hgw).trans g2
      have mk : wr.cell? ⟨w.heap.size + 1, 2 + k, none⟩ = some (.bool (R.getD (k + 2) false)) := (hbel.cell (p := ⟨w.heap.size + 1, 2 + k, none⟩) (show w.heap.size + 1 < w1.heap.size from hsz1)).trans (HMC.out k hkn)
      have hszr := hbel.size
      have hlt2 : w.heap.size + 1 < wr.heap.size := by omega
      have hv := HV.out ns[k] (List.getElem_mem hkn)
      have hsl := supTo_lt ns R HV.out k (by omega)
      have hdef : supTo ns R (k + 1) = if R.getD (k + 2) false then supTo ns R k ||| 2 ^ ns[k].1 else supTo ns R k := by
        have hn : ns.getD k (0, 0, 0) = ns[k] := by simp [List.getD, hkn]
        rw [← hn]; rfl
      have HU : Hid (bits .or .u8 ((supTo ns R k : Nat) : Int) (IntKind.u8.wrap (2 ^ ns[k].1)) = ((supTo ns R k ||| 2 ^ ns[k].1 : Nat) : Int)) := bit_or8 _ _ hsl hv
      have HDEF : Hid (supTo ns R (k + 1) = if R.getD (k + 2) false then supTo ns R k ||| 2 ^ ns[k].1 else supTo ns R k) := hdef
      clear hdef g0 g1 g2 old
      generalize ns[k] = q at *
      obtain ⟨qv, no, yes⟩ := q
      simp only at *
      generalize supTo ns R k = X at *
      subst hao
      clear HCELLS HR HMC
      cases hb : R.getD (k + 2) false
      · rw [hb] at mk HDEF
        have HD2 : Hid (supTo ns R (k + 1) = X) := HDEF.out
        go_wp2_with fail
        exact ⟨⟨k + 1, hkn, by go_num, by rw [HD2.out], hbel.alloc (by omega) _⟩, by simp [intOf]; omega⟩
      · rw [hb] at mk HDEF
        have HD2 : Hid (supTo ns R (k + 1) = X ||| 2 ^ qv) := HDEF.out
        go_wp2_with fail
        exact ⟨⟨k + 1, hkn, by go_num, val_int (by rw [HD2.out]; exact HU.out), hbel.alloc (by omega) _⟩, by simp [intOf]; omega⟩
    · obtain rfl : k = ns.length := by omega
      go_wp2_with fail
      go_ret
      exact ⟨ret_int (by rw [HRR.out]), HB1.out.trans (hbel.mono (by omega))⟩

/-- The set that a handle's function hangs on. -/
def St.sup (st : St) (a : Nat) : Nat := supTo st.ns (Cho.reached st.ns [st.root a]) st.ns.length
theorem sup_lt {st : St} (h : Inv st) (a : Nat) : st.sup a < 256 := supTo_lt _ _ (fun n hn => h.ord6 _ (h.red.var n hn)) _ (Nat.le_refl _)
theorem sup_bit {st : St} (h : Inv st) {a : Nat} (ha : st.live a) (i : Nat) : (st.sup a).testBit i = true ↔ ¬ ∀ p b, Cho.ev st.ns (st.root a) (Cho.put p i b) = Cho.ev st.ns (st.root a) p := by
  have hl := h.root_lt ha
  rw [← hangs_iff h.red _ _ hl]
  unfold St.sup
  rw [supTo_bit _ _ _ _ (Nat.le_refl _)]
  constructor
  · rintro ⟨j, hj, _, hb, hi⟩
    exact ⟨j, hj, (Cho.reached_iff h.red.wf _ (by simpa using hl) _ (by omega)).1 hb, hi⟩
  · rintro ⟨j, hj, hr, hi⟩
    exact ⟨j, hj, hj, (Cho.reached_iff h.red.wf _ (by simpa using hl) _ (by omega)).2 hr, hi⟩
end Go.Proofs.YthoodkbdpnffdaaDoor
