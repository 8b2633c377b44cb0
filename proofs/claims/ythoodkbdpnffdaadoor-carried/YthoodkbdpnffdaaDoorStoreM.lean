/-
  Own work: what a link says at a place, and at all places, as the plain functions have it (walks).
-/
import Derived.Test.YthoodkbdpnffdaaDoorDiaW
import Derived.Test.YthoodkbdpnffdaaDoorPlainE
namespace Go.Proofs.YthoodkbdpnffdaaDoor
open Go.RowKit
open Cho (U64 Tab full col Nd)

set_option maxHeartbeats 400000 in
theorem leads_calls (s off l n cap : Nat) (ao : Option Addr) (w : World) (h1 : w.cell? ⟨s, off + 1, none⟩ = some (.slice ao n cap)) (hl : l < n + 2) (hn : n ≤ 1000000) :
    Calls Tryd.prog 74 #[.pointer (some ⟨s, off, none⟩), .int .i64 l] w fun e w' => e = .returned (.bool true) ∧ w' = w := by
  have h0 : decide ((0 : Int) ≤ (l : Int)) = true := by simp
  have h2 : decide ((l : Int) < 2 + (n : Int)) = true := by simp; omega
  go_enter Tryd.func74, Tryd.ntmps74
  go_wp2
  go_ret
  exact ⟨by simp, rfl⟩

theorem bit8 (p v : Nat) (hp : p < 256) : bits .and .u8 ((p : Int) / 2 ^ v) 1 = ((if p.testBit v then 1 else 0 : Nat) : Int) := by
  rw [show ((p : Int) / 2 ^ v) = ((p >>> v : Nat) : Int) from by rw [Nat.shiftRight_eq_div_pow]; simp]
  have h : p >>> v < 256 := Nat.lt_of_le_of_lt (Nat.shiftRight_le _ _) hp
  have := u8_and_nat (p >>> v) 1 h (by omega)
  rw [show ((1 : Nat) : Int) = 1 from rfl] at this
  rw [this, ← Cho.shr_testBit0, Cho.testBit0_and]
theorem beq_cast (k : Nat) : ((k : Int) == 1) = (k == 1) := by
  rw [Bool.eq_iff_iff]; simp; omega

set_option maxHeartbeats 1000000 in
theorem says_calls (s off B : Nat) (ns : List Nd) (nv : Value) (l p : Nat) (w : World) (h1 : w.cell? ⟨s, off + 1, none⟩ = some nv) (hr : w.ownsRow B 122 3 nv ns.length (flat ns))
    (hw : Cho.Wf ns) (hv : ∀ n ∈ ns, n.1 < 6) (hl : l < ns.length + 2) (hp : p < 256) (hn : ns.length ≤ 1000000) :
    Calls Tryd.prog 50 #[.pointer (some ⟨s, off, none⟩), .int .i64 l, .int .u8 p] w fun e w' => e = .returned (.bool (Cho.ev ns l p)) ∧ Below w.heap.size w w' := by
  obtain ⟨ao, cap, rfl, hblk, hcells⟩ := row_cell hr
  have hs := World.block_lt_of_cell? w _ h1
  simp only at hs
  have HW : Hid (Cho.Wf ns) := hw
  have HV : Hid (∀ n ∈ ns, n.1 < 6) := hv
  clear hr hblk hw hv
  go_enter Tryd.func50, Tryd.ntmps50
  go_wp2_with fail
  go_loopw [1] (fun i wr => ∃ k : Nat, k < ns.length + 2 ∧ i = .int .i64 k ∧ Cho.ev ns k p = Cho.ev ns l p ∧ Below w.heap.size w wr) (fun i _ => (intOf i).toNat)
  case atStart => exact ⟨l, hl, rfl, rfl, Below.refl _ _⟩
  case round =>
    obtain ⟨k, hk, rfl, hev, hbel⟩ := hrel
    have HE : Hid (Cho.ev ns k p = Cho.ev ns l p) := hev
    clear hev
    have c1 : wr.cell? ⟨s, off + 1, none⟩ = some (.slice ao ns.length cap) := (hbel.cell (p := ⟨s, off + 1, none⟩) hs).trans h1
    have hsz := hbel.size
    by_cases h2 : k < 2
    · have H2 : Hid (Cho.ev ns k p = (k == 1)) := Cho.ev_small ns k p h2
      have hd : decide ((2 : Int) ≤ (k : Int)) = false := by simp; omega
      clear hcells
      go_wp2_with fail
      go_ret
      refine ⟨?_, hbel⟩
      rw [← HE.out, H2.out]
      simp [beq_cast]
    · obtain ⟨g, hao, hgw, hcap, g0, g1, g2⟩ := hcells (k - 2) (by omega)
      have e0 : wr.cell? ⟨g, (k - 2) * 3, none⟩ = some (.int .i64 (ns[k - 2].1 : Nat)) := (hbel.cell (p := ⟨g, _, none⟩) hgw).trans g0
      have e1 : wr.cell? ⟨g, (k - 2) * 3 + 1, none⟩ = some (.int .i64 (ns[k - 2].2.1 : Nat)) := (hbel.cell (p := ⟨g, _, none⟩) hgw).trans g1
      have e2 : wr.cell? ⟨g, (k - 2) * 3 + 2, none⟩ = some (.int .i64 (ns[k - 2].2.2 : Nat)) := (hbel.cell (p := ⟨g, _, none⟩) hgw).trans g2
      have hw2 := HW.out (k - 2) (by omega)
      have hv2 := HV.out ns[k - 2] (List.getElem_mem (by omega))
      have HN : Hid (Cho.ev ns k p = if p.testBit ns[k - 2].1 then Cho.ev ns ns[k - 2].2.2 p else Cho.ev ns ns[k - 2].2.1 p) := by
        have := Cho.ev_node HW.out p (k := k - 2) (by omega)
        rw [show k - 2 + 2 = k from by omega] at this
        exact this
      clear g0 g1 g2 hcells
      generalize ns[k - 2] = q at *
      obtain ⟨v, no, yes⟩ := q
      simp only at e0 e1 e2 hw2 hv2
      subst hao
      have hd : decide ((2 : Int) ≤ (k : Int)) = true := by simp; omega
      have ek : ((k : Int) - 2).toNat = k - 2 := by omega
      have HB : Hid (bits .and .u8 ((p : Int) / 2 ^ v) 1 = ((if p.testBit v then 1 else 0 : Nat) : Int)) := bit8 p v hp
      go_wp2_with fail
      refine (leads_calls s off k ns.length cap _ _ c1 hk hn).mono ?_
      rintro e w1 ⟨rfl, rfl⟩
      cases hb : p.testBit v
      · rw [hb] at HB HN
        have hb0 : (bits .and .u8 ((p : Int) / 2 ^ v) 1 == 1) = false := by rw [HB.out]; rfl
        have HX : Hid (Cho.ev ns no p = Cho.ev ns l p) := HN.out.symm.trans HE.out
        go_wp2_with fail
        exact ⟨⟨no, by omega, rfl, HX.out, hbel.alloc (by omega) _⟩, by simp [intOf]; omega⟩
      · rw [hb] at HB HN
        have hb0 : (bits .and .u8 ((p : Int) / 2 ^ v) 1 == 1) = true := by rw [HB.out]; rfl
        have HX : Hid (Cho.ev ns yes p = Cho.ev ns l p) := HN.out.symm.trans HE.out
        go_wp2_with fail
        exact ⟨⟨yes, by omega, rfl, HX.out, hbel.alloc (by omega) _⟩, by simp [intOf]; omega⟩

/-- The table of a link, place by place, as far as place k. -/
def tabTo (ns : List Nd) (l : Nat) : Nat → Nat
  | 0 => 0
  | k + 1 => if Cho.ev ns l k then tabTo ns l k ||| 2 ^ k else tabTo ns l k
theorem tabTo_lt (ns : List Nd) (l k : Nat) : tabTo ns l k < 2 ^ k := by
  induction k with
  | zero => simp [tabTo]
  | succ k ih =>
    have h : 2 ^ k < 2 ^ (k + 1) := Nat.pow_lt_pow_right (by decide) (by omega)
    simp only [tabTo]; split
    · exact Nat.or_lt_two_pow (by omega) h
    · omega
theorem tabTo_bit (ns : List Nd) (l k p : Nat) (hp : p < k) : (tabTo ns l k).testBit p = Cho.ev ns l p := by
  induction k with
  | zero => omega
  | succ k ih =>
    simp only [tabTo]
    by_cases e : p = k
    · subst e
      have h0 : (tabTo ns l p).testBit p = false := Nat.testBit_lt_two_pow (tabTo_lt ns l p)
      split
      · rename_i h; rw [Nat.testBit_or, h0, Nat.testBit_two_pow_self, h]; rfl
      · rename_i h; rw [h0]; simpa using h
    · split
      · rw [Nat.testBit_or, ih (by omega), Nat.testBit_two_pow_of_ne (by omega)]; simp
      · exact ih (by omega)
theorem tabTo_u64 (ns : List Nd) (l k : Nat) (h : k ≤ 64) : U64 (tabTo ns l k) := Nat.lt_of_lt_of_le (tabTo_lt ns l k) (Nat.pow_le_pow_right (by decide) h)
theorem pow_u64 (k : Nat) (h : k < 64) : U64 (2 ^ k) := Nat.pow_lt_pow_right (by decide) h
theorem wrap_pow' (k : Nat) (h : k < 64) : IntKind.u64.wrap (2 ^ k) = ((2 ^ k : Nat) : Int) := by
  have h1 : (2 : Nat) ^ k < 2 ^ 64 := Nat.pow_lt_pow_right (by decide) h
  rw [IntKind.wrap_u64, show ((2 : Int) ^ k) = ((2 ^ k : Nat) : Int) from by simp]
  rw [show (18446744073709551616 : Int) = ((18446744073709551616 : Nat) : Int) from rfl, ← Int.natCast_emod, Nat.mod_eq_of_lt h1]

theorem wrap64_pow (n : Nat) (h : n ≤ 6) : wrap64 (2 ^ n) = ((2 ^ n : Nat) : Int) := by
  have := Cho.two_pow_le n h
  rw [show ((2 : Int) ^ n) = ((2 ^ n : Nat) : Int) from by simp, wrap64]
  generalize 2 ^ n = N at *
  omega

set_option maxHeartbeats 1000000 in
theorem dtable_calls (s off B n capo : Nat) (oo : Option Addr) (ns : List Nd) (nv : Value) (l : Nat) (w : World) (h0 : w.cell? ⟨s, off, none⟩ = some (.slice oo n capo)) (h1 : w.cell? ⟨s, off + 1, none⟩ = some nv) (hr : w.ownsRow B 122 3 nv ns.length (flat ns))
    (hw : Cho.Wf ns) (hv : ∀ n ∈ ns, n.1 < 6) (hl : l < ns.length + 2) (hn6 : n ≤ 6) (hn : ns.length ≤ 1000000) :
    Calls Tryd.prog 70 #[.pointer (some ⟨s, off, none⟩), .int .i64 l] w fun e w' => e = .returned (.int .u64 (tabTo ns l (2 ^ n) : Nat)) ∧ Below w.heap.size w w' := by
  have hs := World.block_lt_of_cell? w _ h1
  simp only at hs
  have h64 := Cho.two_pow_le n hn6
  have HR : Hid (w.ownsRow B 122 3 nv ns.length (flat ns)) := hr
  have HW : Hid (Cho.Wf ns) := hw
  have HV : Hid (∀ n ∈ ns, n.1 < 6) := hv
  clear hr hw hv
  generalize hN : 2 ^ n = N at *
  have HN2 : Hid (2 ^ n = N) := hN
  clear hN
  go_enter Tryd.func70, Tryd.ntmps70
  go_wp2_with fail
  rw [wrap64_pow n hn6, HN2.out]
  go_loopw [5, 7] (fun t i wr => ∃ k : Nat, k ≤ N ∧ i = .int .i64 k ∧ t = .int .u64 (tabTo ns l k : Nat) ∧ Below w.heap.size w wr) (fun _ i _ => N - (intOf i).toNat)
  case atStart => exact ⟨0, Nat.zero_le _, rfl, rfl, Below.refl _ _⟩
  case round =>
    obtain ⟨k, hk, rfl, rfl, hbel⟩ := hrel
    have c1 : wr.cell? ⟨s, off + 1, none⟩ = some nv := (hbel.cell (p := ⟨s, off + 1, none⟩) hs).trans h1
    have hr' : wr.ownsRow B 122 3 nv ns.length (flat ns) := owns_kept HR.out fun g hg => hbel.block g (HR.out.lt g hg).2
    have HR' : Hid (wr.ownsRow B 122 3 nv ns.length (flat ns)) := hr'
    clear hr'
    by_cases hkn : k < N
    · have HT : Hid (tabTo ns l (k + 1) = if Cho.ev ns l k then tabTo ns l k ||| 2 ^ k else tabTo ns l k) := rfl
      have hu := tabTo_u64 ns l k (by omega)
      generalize tabTo ns l k = T at *
      have HU : Hid (bits .or .u64 (T : Int) (IntKind.u64.wrap (2 ^ k)) = ((T ||| 2 ^ k : Nat) : Int)) := by
        show bits .or .u64 (T : Int) (IntKind.u64.wrap (2 ^ k)) = ((T ||| 2 ^ k : Nat) : Int)
        rw [wrap_pow' k (by omega)]; exact or64 hu (pow_u64 k (by omega))
      go_wp2_with fail
      refine (says_calls s off B ns nv l k _ c1 HR'.out HW.out HV.out hl (by omega) hn).mono ?_
      rintro e w1 ⟨rfl, hb1⟩
      have hbel1 := hbel.trans (hb1.mono hbel.size)
      cases hev : Cho.ev ns l k
      · have HT2 : Hid (tabTo ns l (k + 1) = T) := HT.out.trans (by rw [hev]; rfl)
        go_wp2_with fail
        exact ⟨⟨k + 1, by omega, by go_num, by rw [HT2.out], hbel1⟩, by simp [intOf]; omega⟩
      · have HT2 : Hid (tabTo ns l (k + 1) = T ||| 2 ^ k) := HT.out.trans (by rw [hev]; rfl)
        go_wp2_with fail
        exact ⟨⟨k + 1, by omega, by go_num, val_int (by rw [HT2.out]; exact HU.out), hbel1⟩, by simp [intOf]; omega⟩
    · have HT : Hid (tabTo ns l k = tabTo ns l N) := by show tabTo ns l k = tabTo ns l N; rw [show k = N from by omega]
      go_wp2_with fail
      go_ret
      exact ⟨ret_int (by rw [HT.out]), hbel⟩
end Go.Proofs.YthoodkbdpnffdaaDoor

/-
  Own work: what the store's inner calls do to a store in memory (walks): full, root, add.
-/
namespace Go.Proofs.YthoodkbdpnffdaaDoor
open Go.RowKit
open Cho (U64 Tab full col Nd)

theorem getD_at {l : List Nat} {k : Nat} (h : k < l.length) : l.getD k 0 = l[k] := by simp [List.getD, h]
theorem grown_of_below {w w' : World} {r : Option Nat} (h : Below w.heap.size w w') : w.grownBy w' r := ⟨h.os, h.tape, h.output, h.size, fun k hk _ => h.block k hk⟩
theorem grown_refl (w : World) (r : Option Nat) : w.grownBy w r := ⟨rfl, rfl, rfl, Nat.le_refl _, fun _ _ _ => rfl⟩
theorem grown_trans {a b c : World} {r : Option Nat} (h : a.grownBy b r) (k : b.grownBy c r) : a.grownBy c r :=
  ⟨k.os.trans h.os, k.tape.trans h.tape, k.output.trans h.output, Nat.le_trans h.size k.size, fun i hi hr => (k.block i (Nat.lt_of_lt_of_le hi h.size) hr).trans (h.block i hi hr)⟩
theorem grown_set {a b : World} {s j : Nat} {v : Value} (h : a.grownBy b (some s)) : a.grownBy (b.setCell ⟨s, j, none⟩ v) (some s) :=
  ⟨h.os, h.tape, h.output, by simp [World.setCell]; exact h.size, fun i hi hr => (block_set_other (by intro e; exact hr (by rw [e]))).trans (h.block i hi hr)⟩

theorem cols_pos {w : World} (h : Cols w) : 0 < w.heap.size := World.block_lt_of_cell? w _ (h 0 (by decide))
theorem Cols.grown {w w' : World} {r : Option Nat} (h : Cols w) (hg : w.grownBy w' r) (hr : some 0 ≠ r) : Cols w' :=
  fun i hi => (World.cell?_of_block (a := ⟨0, i, none⟩) (hg.block 0 (cols_pos h) hr)).trans (h i hi)

/-- A store stays what it is where another block is written, and none of its own. -/
theorem StoreAt.kept {w w' : World} {t s : Nat} {st : St} (h : StoreAt w t st) (hg : w.grownBy w' (some s)) (hs : 0 < s) (hne : t ≠ s) (hS : ∃ cur, w.heap[s]? = some (.cells cur 93 (0, 0))) : StoreAt w' t st := by
  obtain ⟨hp, ⟨go, capo, nv, B, hb, ho, ⟨cur, hcur⟩, hcap, hr⟩, h1, h2, h3, h4, h5, h6, h7, hc⟩ := h
  obtain ⟨cs, hcs⟩ := hS
  have kept : ∀ k o, w.heap[k]? = some o → k ≠ s → w'.heap[k]? = w.heap[k]? := fun k o hk hks => hg.block k (lt_of_block hk) (by simpa using hks)
  have hgo : go ≠ s := by rintro rfl; rw [hcur] at hcs; simp at hcs
  refine ⟨hp, ⟨go, capo, nv, B, (kept t _ hb hne).trans hb, ?_, ⟨cur, (kept go _ hcur hgo).trans hcur⟩, hcap, ?_⟩, h1, h2, h3, h4, h5, h6, h7, hc.grown hg (by simp; omega)⟩
  · exact fun i hi => (World.cell?_of_block (a := ⟨go, i, none⟩) (kept go _ hcur hgo)).trans (ho i hi)
  · refine owns_kept hr fun g hgb => ?_
    obtain ⟨_, ⟨rfl, _⟩ | ⟨g', cap, cu, rfl, _, h2, _⟩⟩ := hr
    · simp [Value.ownBlock] at hgb
    · obtain rfl : g' = g := by simpa [Value.ownBlock] using hgb
      exact kept g' _ h2 (by rintro rfl; rw [h2] at hcs; simp at hcs)
theorem StoreAt.kept0 {w w' : World} {t : Nat} {st : St} (h : StoreAt w t st) (hg : w.grownBy w' none) : StoreAt w' t st := by
  obtain ⟨hp, ⟨go, capo, nv, B, hb, ho, ⟨cur, hcur⟩, hcap, hr⟩, h1, h2, h3, h4, h5, h6, h7, hc⟩ := h
  have kept : ∀ k o, w.heap[k]? = some o → w'.heap[k]? = w.heap[k]? := fun k o hk => hg.block k (lt_of_block hk) (by simp)
  refine ⟨hp, ⟨go, capo, nv, B, (kept t _ hb).trans hb, ?_, ⟨cur, (kept go _ hcur).trans hcur⟩, hcap, ?_⟩, h1, h2, h3, h4, h5, h6, h7, hc.grown hg (by simp)⟩
  · exact fun i hi => (World.cell?_of_block (a := ⟨go, i, none⟩) (kept go _ hcur)).trans (ho i hi)
  · exact owns_kept hr fun g hgb => hg.block g (hr.lt g hgb).2 (by simp)
theorem StoreAt.below {w w' : World} {t : Nat} {st : St} (h : StoreAt w t st) (hb : Below w.heap.size w w') : StoreAt w' t st := h.kept0 (grown_of_below hb)

set_option maxHeartbeats 400000 in
theorem sfull_calls (s n : Nat) (w : World) (h0 : w.cell? ⟨s, 0, none⟩ = some (.int .i64 n)) (hn : n ≤ 6) :
    Calls Tryd.prog 43 #[.pointer (some ⟨s, 0, none⟩)] w fun e w' => e = .returned (.int .u64 (full n : Nat)) ∧ w' = w := by
  go_enter Tryd.func43, Tryd.ntmps43
  go_wp2_with fail
  refine (full_calls n _ hn).mono ?_
  rintro e w1 ⟨rfl, rfl⟩
  go_wp2_with fail
  go_ret
  exact ⟨rfl, rfl⟩

set_option maxHeartbeats 400000 in
theorem root_yes (s a : Nat) (st : St) (w : World) (h : StoreAt w s st) (hl : st.slot a < 30) :
    Calls Tryd.prog 46 #[.pointer (some ⟨s, 0, none⟩), .int .u32 a] w fun e w' => e = .returned (.tuple #[.int .i64 (st.rs.getD (st.slot a) 0 : Nat), .int .i64 0]) ∧ w' = w := by
  obtain ⟨go, capo, nv, B, hb, -⟩ := h.ex
  have hr : w.cell? ⟨s, 33 + st.slot a, none⟩ = some (.int .i64 (st.rs.getD (st.slot a) 0 : Nat)) := by
    rw [cell_of_block hb, List.getElem?_toArray, at_r h.hs30 h.rs30 _ hl, getD_at (by rw [h.rs30]; exact hl)]
  have hslot := slot_calls s a st _ nv w hb h.hs30
  rw [ixOr_lt hl] at hslot
  have HS : Hid (Calls Tryd.prog 55 #[.pointer (some ⟨s, 0, none⟩), .int .u32 a] w fun e w' => e = .returned (.int .i64 (st.slot a : Nat)) ∧ w' = w) := hslot
  clear hslot h hb
  generalize st.slot a = k at *
  generalize st.rs.getD k 0 = r at *
  go_enter Tryd.func46, Tryd.ntmps46
  go_wp2_with fail
  refine HS.out.mono ?_
  rintro e w1 ⟨rfl, rfl⟩
  go_wp2_with fail
  go_ret2
  exact ⟨rfl, rfl⟩

set_option maxHeartbeats 400000 in
theorem root_no (s a : Nat) (st : St) (w : World) (h : StoreAt w s st) (hl : ¬ st.slot a < 30) :
    Calls Tryd.prog 46 #[.pointer (some ⟨s, 0, none⟩), .int .u32 a] w fun e w' => e = .returned (.tuple #[.int .i64 0, .int .i64 2]) ∧ w' = w := by
  obtain ⟨go, capo, nv, B, hb, -⟩ := h.ex
  have hslot := slot_calls s a st _ nv w hb h.hs30
  rw [ixOr_ge hl] at hslot
  have HS : Hid (Calls Tryd.prog 55 #[.pointer (some ⟨s, 0, none⟩), .int .u32 a] w fun e w' => e = .returned (.int .i64 (-1)) ∧ w' = w) := hslot
  clear hslot h hb
  go_enter Tryd.func46, Tryd.ntmps46
  go_wp2_with fail
  refine HS.out.mono ?_
  rintro e w1 ⟨rfl, rfl⟩
  go_wp2_with fail
  go_ret2
  exact ⟨rfl, rfl⟩
end Go.Proofs.YthoodkbdpnffdaaDoor
