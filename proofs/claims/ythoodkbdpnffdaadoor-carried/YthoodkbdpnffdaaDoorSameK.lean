/-
  Own work: a store's Order, Swap and Sift (walks).
-/
import Derived.Test.YthoodkbdpnffdaaDoorSiftW
import Derived.Test.YthoodkbdpnffdaaDoorMoveM
import Derived.Test.YthoodkbdpnffdaaDoorTabW
namespace Go.Proofs.YthoodkbdpnffdaaDoor
open Go.RowKit
open Cho (U64 Tab full col Nd Red Dg DgOk)

set_option maxHeartbeats 400000 in
theorem sorder_calls (s : Nat) (st : St) (w : World) (h : Has w s st) :
    Calls Tryd.prog 36 #[.pointer (some ⟨s, 0, none⟩)] w fun e w' => ∃ g cap, e = .returned (.slice (some ⟨g, 0, none⟩) st.ord.length cap) ∧ OwnI w w' g st.ord.length cap st.ord := by
  obtain ⟨go, capo, nv, B, hb, ho, hcur, hcap, hr⟩ := h.lies.ex
  have d0 : w.cell? ⟨s, 63, none⟩ = some (.slice (some ⟨go, 0, none⟩) st.ord.length capo) := (cell_of_block hb 63).trans (by rw [List.getElem?_toArray, at_63 h.lies.hs30 h.lies.rs30])
  have HO : Hid (Calls Tryd.prog 64 #[.pointer (some ⟨s, 63, none⟩)] w fun e w' => ∃ g cap, e = .returned (.slice (some ⟨g, 0, none⟩) st.ord.length cap) ∧ OwnI w w' g st.ord.length cap st.ord) := dorder_calls s 63 go capo st.ord w d0 ho (by rw [h.inv.len]; exact h.inv.n1) (by rw [h.inv.len]; exact h.inv.n6)
  clear h hb ho hcur hr d0
  go_enter Tryd.func36, Tryd.ntmps36
  go_wp2_with fail
  refine HO.out.mono ?_
  rintro e w1 ⟨g, cap, rfl, l1⟩
  have L1 : Hid _ := l1
  clear l1
  go_wp2_with fail
  go_ret
  exact ⟨g, cap, rfl, L1.out⟩

/-- The store's own diagram, with its roots. -/
theorem Has.dgAt {w : World} {s : Nat} {st : St} (h : Has w s st) : DgAt st.n w s 63 s 33 st.dg := by
  obtain ⟨go, capo, nv, B, hb, ho, hcur, hcap, hr⟩ := h.lies.ex
  refine ⟨⟨go, capo, nv, ?_, ?_, ⟨rfl, hcap, ho, hcur⟩, owns_low hr (Nat.zero_le _)⟩, fun i hi => ?_, h.lies.cols, h.inv.dg, h.few, h.inv.rs30⟩
  · exact (cell_of_block hb 63).trans (by rw [List.getElem?_toArray, at_63 h.lies.hs30 h.lies.rs30]; rfl)
  · exact (cell_of_block hb 64).trans (by rw [List.getElem?_toArray, at_64 h.lies.hs30 h.lies.rs30])
  · have hi' : i < st.rs.length := hi
    exact (cell_of_block hb _).trans (by rw [List.getElem?_toArray, at_r h.lies.hs30 h.lies.rs30 _ (by rw [← h.lies.rs30]; exact hi')]; rfl)
/-- Behind 'take'. -/
theorem took {w V w5 : World} {s g n cap : Nat} {st : St} {kv lw : Value} {d : Dg} (H : Has w s st) (gV : w.grownBy V (some s)) (dg : DgV V g n cap kv lw d)
    (h5 : w5.heap[s]? = some (.cells (cellsOf { st with rs := d.ls } (.slice (some ⟨g, 0, none⟩) n cap) kv).toArray 93 (0, 0))) (hVs : ∃ c, V.heap[s]? = some (.cells c 93 (0, 0))) (g5 : V.grownBy w5 (some s)) (hs : Cho.Same st.n st.dg d) : StoreAt w5 s (st.take d) ∧ w.grownBy w5 (some s) := by
  have hg5 := grown_trans gV g5
  obtain ⟨c, hc⟩ := hVs
  have dg5 : DgV w5 g n cap kv lw d := dg.kept fun k c' T hk hT => by
    refine g5.block k (lt_of_block hk) ?_
    intro e
    obtain rfl : k = s := by simpa using e
    rw [hc] at hk
    simp at hk
    rcases hT with rfl | rfl | rfl <;> simp at hk
  obtain ⟨e1, e2, e3, cur, e4⟩ := dg5.ord
  subst e1
  exact ⟨take_end (st' := st.take d) H.lies hg5 h5 e3 e4 e2 dg5.row H.lies.hs30 (hs.len.trans H.inv.rs30) rfl rfl rfl hs.ok.o.len (fun v hv => (hs.ok.o.mem v).1 hv), hg5⟩

set_option maxRecDepth 100000 in
set_option maxHeartbeats 1000000 in
theorem sift_walk (s : Nat) (st : St) (w : World) (h : Has w s st) :
    Calls Tryd.prog 39 #[.pointer (some ⟨s, 0, none⟩)] w fun e w' => e = .returned (.int .i64 0) ∧ StoreAt w' s st.sifted ∧ w.grownBy w' (some s) := by
  have H : Hid (Has w s st) := h
  obtain ⟨go, capo, nv, B, hb, ho, hcur, hcap, hr⟩ := h.lies.ex
  have HB : Hid (w.heap[s]? = some (.cells (cellsOf st (.slice (some ⟨go, 0, none⟩) st.ord.length capo) nv).toArray 93 (0, 0))) := hb
  have hsw := lt_of_block hb
  have KC : Hid (∀ X, Below w.heap.size w X → Calls Tryd.prog 66 #[.pointer (some ⟨s, 63, none⟩), .slice (some ⟨s, 33, none⟩) 30 30] X (Ans X st.dg.sift)) := by
    intro X hX
    have := siftD (capl := 30) (h.dgAt.below hX)
    rw [h.dgAt.l30] at this
    exact this
  have HS : Hid (Cho.Same st.n st.dg st.dg.sift) := (Cho.sift_ok h.inv.dg).1
  have HL : Hid (st.dg.sift.ls.length = 30) := HS.out.len.trans h.inv.rs30
  have HE : Hid (st.sifted = st.take st.dg.sift) := rfl
  clear h hb ho hcur hr
  generalize st.dg.sift = ds at *
  go_enter Tryd.func39, Tryd.ntmps39
  go_wp2_with fail
  have hneW : ¬ s = w.heap.size := by omega
  go_region_held3 (fun _ => True) (trivial)
    (first
      | (go_at_call 66; refine (KC.out w.drew (Below.refl _ _).drew).mono ?_; rintro e w' ⟨g, cap, ak, ck, al, cl, rfl, hd, hbl⟩; have HKQ : Hid _ := kq_a hd hbl; clear hd hbl)
      | (go_at_call 66; refine (KC.out (w.alloc (.cells #[.slice none 0 0, .slice none 0 0] 91)).drew ((Below.refl _ _).alloc (Nat.le_refl _) _).drew).mono ?_; rintro e w' ⟨g, cap, ak, ck, al, cl, rfl, hd, hbl⟩; have HKQ : Hid _ := kq_b hd hbl; have hat := kq_at hbl; have hltw := lt_of_block hat; have p0 := cell_of_block hat 0; have p1 := cell_of_block hat 1; have f0 := frozen_of_block hat 0; have f1 := frozen_of_block hat 1; clear hd hbl hat))
  rotate_left
  clear p0 p1 f0 f1 hltw
  generalize (w'.setCell ⟨w.heap.size, 0, none⟩ (.slice (some ⟨g, 0, none⟩) ds.ord.length cap)).setCell ⟨w.heap.size, 1, none⟩ (.slice ak ds.ns.length ck) = V at *
  rotate_left
  generalize w'.alloc (.cells #[.slice (some ⟨g, 0, none⟩) ds.ord.length cap, .slice ak ds.ns.length ck] 91) = V at *
  all_goals
    have hd := HKQ.out.dia
    have p0 := cell_of_block hd 0
    have p1 := cell_of_block hd 1
    have hq := lt_of_block hd
    have hlo := HKQ.out.lo
    have hVs := (HKQ.out.bel.block s hsw).trans HB.out
    have hsV := lt_of_block hVs
    have hneg : al ≠ s := by
      obtain ⟨c, hc⟩ := row_kind HKQ.out.dg.lrow (g := al) rfl
      rintro rfl
      rw [hVs] at hc; simp at hc
    have HTK : Hid (Calls Tryd.prog 57 #[.pointer (some ⟨s, 0, none⟩), .agg #[.slice (some ⟨g, 0, none⟩) ds.ord.length cap, .slice ak ds.ns.length ck], .slice (some ⟨al, 0, none⟩) 30 cl] V fun e w' => e = .returned (.tuple #[]) ∧
      w'.heap[s]? = some (.cells (cellsOf { st with rs := ds.ls } (.slice (some ⟨g, 0, none⟩) ds.ord.length cap) (.slice ak ds.ns.length ck)).toArray 93 (0, 0)) ∧ V.grownBy w' (some s)) :=
      take_calls s al cl st _ _ _ _ _ _ _ _ ds.ls V hVs H.out.lies.hs30 H.out.lies.rs30 HL.out (HKQ.out.dg.lrow.cells (g := al) rfl) hneg
    have FIN : Hid (∀ w5, w5.heap[s]? = some (.cells (cellsOf { st with rs := ds.ls } (.slice (some ⟨g, 0, none⟩) ds.ord.length cap) (.slice ak ds.ns.length ck)).toArray 93 (0, 0)) → V.grownBy w5 (some s) → StoreAt w5 s st.sifted ∧ w.grownBy w5 (some s)) := by
      intro w5 h5 g5
      rw [HE.out]
      exact took H.out (grown_of_below HKQ.out.bel) HKQ.out.dg h5 ⟨_, hVs⟩ g5 HS.out
    clear hd hVs
    go_wp2_with fail
    rw [HL.out]
    refine HTK.out.mono ?_
    rintro e w5 ⟨rfl, h5, g5⟩
    have H5 : Hid _ := FIN.out w5 h5 g5
    clear h5 g5
    go_wp2_with fail
    go_ret
    exact ⟨rfl, H5.out⟩
set_option maxRecDepth 100000 in
set_option maxHeartbeats 2000000 in
theorem swap_walk (s k : Nat) (st : St) (w : World) (h : Has w s st) (hk : k + 1 < st.n) :
    Calls Tryd.prog 38 #[.pointer (some ⟨s, 0, none⟩), .int .i64 k] w fun e w' =>
      (st.room < (st.swp k).ns.length → e = .returned (.int .i64 4) ∧ StoreAt w' s st) ∧ ((st.swp k).ns.length ≤ st.room → e = .returned (.int .i64 0) ∧ StoreAt w' s (st.swp k)) ∧ w.grownBy w' (some s) := by
  have H : Hid (Has w s st) := h
  obtain ⟨go, capo, nv, B, hb, ho, hcur, hcap, hr⟩ := h.lies.ex
  have HB : Hid (w.heap[s]? = some (.cells (cellsOf st (.slice (some ⟨go, 0, none⟩) st.ord.length capo) nv).toArray 93 (0, 0))) := hb
  have hsw := lt_of_block hb
  have h0 : w.cell? ⟨s, 0, none⟩ = some (.int .i64 (st.n : Nat)) := cell_of_block hb 0
  have KC : Hid (∀ X, Below w.heap.size w X → Calls Tryd.prog 65 #[.pointer (some ⟨s, 63, none⟩), .int .i64 (k : Nat), .int .i64 (IntKind.i64.wrap ((k : Int) + 1)), .slice (some ⟨s, 33, none⟩) 30 30] X (Ans X (st.dg.move k (k + 1)))) := by
    have ew : IntKind.i64.wrap ((k : Int) + 1) = ((k + 1 : Nat) : Int) := by
      have := h.inv.n6
      simp [IntKind.wrap, IntKind.bits, IntKind.signed]
      omega
    rw [ew]
    intro X hX
    have := moveD (capl := 30) (f := k) (t := k + 1) (h.dgAt.below hX) (by omega) hk
    rw [h.dgAt.l30] at this
    exact this
  have hsame := swp_same h.inv hk
  have HS : Hid (Cho.Same st.n st.dg (st.dg.move k (k + 1))) := hsame.1
  have HL : Hid ((st.dg.move k (k + 1)).ls.length = 30) := hsame.1.len.trans h.inv.rs30
  have hfew : (st.dg.move k (k + 1)).ns.length ≤ 1890 := hsame.2.1
  have HE : Hid (st.swp k = st.take (st.dg.move k (k + 1))) := rfl
  have HEN : Hid ((st.swp k).ns.length = (st.dg.move k (k + 1)).ns.length) := rfl
  have hroom4 := h.lies.room
  have hk3 : (k : Int) ≤ (st.n : Int) - 2 := by omega
  have hn6 := h.inv.n6
  clear h hb ho hcur hr hsame
  rw [HEN.out]
  generalize st.dg.move k (k + 1) = ds at *
  go_enter Tryd.func38, Tryd.ntmps38
  go_wp2_with fail
  have hneW : ¬ s = w.heap.size := by omega
  go_region_held3 (fun _ => True) (trivial)
    (first
      | (go_at_call 65; refine (KC.out w.drew (Below.refl _ _).drew).mono ?_; rintro e w' ⟨g, cap, ak, ck, al, cl, rfl, hd, hbl⟩; have HKQ : Hid _ := kq_a hd hbl; clear hd hbl)
      | (go_at_call 65; refine (KC.out (w.alloc (.cells #[.slice none 0 0, .slice none 0 0] 91)).drew ((Below.refl _ _).alloc (Nat.le_refl _) _).drew).mono ?_; rintro e w' ⟨g, cap, ak, ck, al, cl, rfl, hd, hbl⟩; have HKQ : Hid _ := kq_b hd hbl; have hat := kq_at hbl; have hltw := lt_of_block hat; have p0 := cell_of_block hat 0; have p1 := cell_of_block hat 1; have f0 := frozen_of_block hat 0; have f1 := frozen_of_block hat 1; clear hd hbl hat))
  rotate_left
  clear p0 p1 f0 f1 hltw
  generalize (w'.setCell ⟨w.heap.size, 0, none⟩ (.slice (some ⟨g, 0, none⟩) ds.ord.length cap)).setCell ⟨w.heap.size, 1, none⟩ (.slice ak ds.ns.length ck) = V at *
  rotate_left
  generalize w'.alloc (.cells #[.slice (some ⟨g, 0, none⟩) ds.ord.length cap, .slice ak ds.ns.length ck] 91) = V at *
  all_goals
    have hd := HKQ.out.dia
    have p0 := cell_of_block hd 0
    have p1 := cell_of_block hd 1
    have hq := lt_of_block hd
    have hVs := (HKQ.out.bel.block s hsw).trans HB.out
    have hsV := lt_of_block hVs
    have s1 : V.cell? ⟨s, 1, none⟩ = some (.int .i64 (st.room : Nat)) := cell_of_block hVs 1
    have hneg : al ≠ s := by
      obtain ⟨c, hc⟩ := row_kind HKQ.out.dg.lrow (g := al) rfl
      rintro rfl
      rw [hVs] at hc; simp at hc
    have BV : Hid (∀ nq, Below w.heap.size w (V.drewN nq)) := fun nq => HKQ.out.bel.trans (below_drewN (Below.refl _ _) nq |>.mono HKQ.out.bel.size)
    have HTK : Hid (∀ nq, Calls Tryd.prog 57 #[.pointer (some ⟨s, 0, none⟩), .agg #[.slice (some ⟨g, 0, none⟩) ds.ord.length cap, .slice ak ds.ns.length ck], .slice (some ⟨al, 0, none⟩) 30 cl] (V.drewN nq) fun e w' => e = .returned (.tuple #[]) ∧
      w'.heap[s]? = some (.cells (cellsOf { st with rs := ds.ls } (.slice (some ⟨g, 0, none⟩) ds.ord.length cap) (.slice ak ds.ns.length ck)).toArray 93 (0, 0)) ∧ (V.drewN nq).grownBy w' (some s)) :=
      fun nq => take_calls s al cl st _ _ _ _ _ _ _ _ ds.ls (V.drewN nq) ((below_drewN (Below.refl (s + 1) V) nq).block s (by omega) |>.trans hVs) H.out.lies.hs30 H.out.lies.rs30 HL.out (fun j u hu => HKQ.out.dg.lrow.cells (g := al) rfl j u hu) hneg
    have FIN : Hid (∀ nq w5, w5.heap[s]? = some (.cells (cellsOf { st with rs := ds.ls } (.slice (some ⟨g, 0, none⟩) ds.ord.length cap) (.slice ak ds.ns.length ck)).toArray 93 (0, 0)) → (V.drewN nq).grownBy w5 (some s) → StoreAt w5 s (st.swp k) ∧ w.grownBy w5 (some s)) := by
      intro nq w5 h5 g5
      rw [HE.out]
      exact took H.out (grown_of_below (BV.out nq)) (HKQ.out.dg.below (below_drewN (Below.refl _ _) nq)) h5 ⟨_, (below_drewN (Below.refl (s + 1) V) nq).block s (by omega) |>.trans hVs⟩ g5 HS.out
    clear hd hVs
    by_cases hroom : ds.ns.length ≤ st.room
    · go_wp2_with fail
      go_quiet ((go_at_call 53; exact Calls.quiet_of_same (nodes_calls _ _ ds.ns.length ck ak _ (by simpa using p1))))
      go_wp2_with fail
      rw [HL.out]
      refine (HTK.out nq).mono ?_
      rintro e w5 ⟨rfl, h5, g5⟩
      have H5 : Hid _ := FIN.out nq w5 h5 g5
      clear h5 g5
      go_wp2_with fail
      go_ret
      exact ⟨fun h => absurd h (by omega), fun _ => ⟨rfl, H5.out.1⟩, H5.out.2⟩
    · go_wp2_with fail
      go_quiet ((go_at_call 53; exact Calls.quiet_of_same (nodes_calls _ _ ds.ns.length ck ak _ (by simpa using p1))))
      go_wp2_with fail
      go_ret
      exact ⟨fun _ => ⟨rfl, H.out.lies.below (BV.out nq)⟩, fun h => absurd h hroom, grown_of_below (BV.out nq)⟩
end Go.Proofs.YthoodkbdpnffdaaDoor

/-
  Own work: whether two lists of numbers are the same (a walk).
-/
namespace Go.Proofs.YthoodkbdpnffdaaDoor
open Go.RowKit

/-- A row of numbers that one can read, wherever it begins. -/
def RowA (w : World) (v : Value) (l : List Nat) : Prop := ∃ ao cap, v = .slice ao l.length cap ∧ l.length ≤ 1000 ∧ ∀ i (hi : i < l.length), ∃ g, ao = some ⟨g, 0, none⟩ ∧ w.cell? ⟨g, i, none⟩ = some (.int .i64 (l[i] : Nat))

set_option maxHeartbeats 400000 in
theorem ksame_calls (u v : Value) (a b : List Nat) (w : World) (ha : RowA w u a) (hb : RowA w v b) :
    Calls Tryd.prog 35 #[u, v] w fun e w' => e = .returned (.bool (decide (a = b))) ∧ ∃ q, w' = w.drewN q := by
  obtain ⟨ao, cap, rfl, la, hc⟩ := ha
  obtain ⟨bo, cap2, rfl, lb, hd⟩ := hb
  have HC : Hid (∀ i (hi : i < a.length), ∃ g, ao = some ⟨g, 0, none⟩ ∧ w.cell? ⟨g, i, none⟩ = some (.int .i64 (a[i] : Nat))) := hc
  have HD : Hid (∀ i (hi : i < b.length), ∃ g, bo = some ⟨g, 0, none⟩ ∧ w.cell? ⟨g, i, none⟩ = some (.int .i64 (b[i] : Nat))) := hd
  clear hc hd
  by_cases hl : a.length = b.length
  · have hbl : ((a.length : Int) != (b.length : Int)) = false := by simp [hl]
    have HL : Hid (a.length = b.length) := hl
    clear hl
    go_enter Tryd.func35, Tryd.ntmps35
    go_wp2_with fail
    go_loopw [5] (fun x5 wr => ∃ i q : Nat, i ≤ a.length ∧ x5 = .int .i64 i ∧ wr = w.drewN q ∧ Hid (∀ j (h1 : j < a.length) (h2 : j < b.length), j < i → a[j] = b[j])) (fun x5 _ => a.length - (intOf x5).toNat)
    case atStart => exact ⟨0, 0, Nat.zero_le _, rfl, (World.drewN_zero w).symm, fun j _ _ h => absurd h (Nat.not_lt_zero _)⟩
    case round =>
      obtain ⟨i, q0, hi, rfl, hq, HN⟩ := hrel
      have HQ : Hid (wr = w.drewN q0) := hq
      have CW : Hid (∀ A v, w.cell? A = some v → wr.cell? A = some v) := fun A v h => by rw [hq]; exact h
      clear hq
      by_cases hlt : i < a.length
      · have hlt2 : i < b.length := by have := HL.out; omega
        obtain ⟨g, rfl, h1'⟩ := HC.out i hlt
        obtain ⟨g2, rfl, h2'⟩ := HD.out i hlt2
        have h1 := CW.out _ _ h1'
        have h2 := CW.out _ _ h2'
        clear h1' h2'
        by_cases he : a[i] = b[i]
        · have HN' : Hid (∀ j (h1 : j < a.length) (h2 : j < b.length), j < i + 1 → a[j] = b[j]) := by
            intro j j1 j2 hj
            by_cases e : j = i
            · subst e; exact he
            · exact HN.out j j1 j2 (by omega)
          have hne : (((a[i] : Nat) : Int) != ((b[i] : Nat) : Int)) = false := by simp [he]
          generalize a[i] = p at *
          generalize b[i] = q at *
          go_wp2_with fail
          go_quiet (fail)
          go_wp2_with fail
          exact ⟨⟨i + 1, q0 + nq, hlt, by go_num, by rw [HQ.out, World.drewN_drewN], HN'⟩, by simp [intOf]; omega⟩
        · have HF : Hid (decide (a = b) = false) := by
            apply decide_eq_false
            intro e; subst e; exact he rfl
          have hne : (((a[i] : Nat) : Int) != ((b[i] : Nat) : Int)) = true := by simp; omega
          generalize a[i] = p at *
          generalize b[i] = q at *
          go_wp2_with fail
          go_quiet (fail)
          go_wp2_with fail
          go_ret
          rw [HF.out]
          exact ⟨rfl, q0 + nq, by rw [HQ.out, World.drewN_drewN]⟩
      · have HT : Hid (decide (a = b) = true) := by
          apply decide_eq_true
          apply List.ext_getElem HL.out
          intro j h1 h2
          exact HN.out j h1 h2 (by omega)
        go_wp2_with fail
        go_ret
        rw [HT.out]
        exact ⟨rfl, q0, HQ.out⟩
  · have HF : Hid (decide (a = b) = false) := by
      apply decide_eq_false
      intro e; subst e; exact hl rfl
    have hbl : ((a.length : Int) != (b.length : Int)) = true := by simp; omega
    go_enter Tryd.func35, Tryd.ntmps35
    go_wp2_with fail
    go_ret
    rw [HF.out]
    exact ⟨rfl, 0, (World.drewN_zero w).symm⟩
end Go.Proofs.YthoodkbdpnffdaaDoor
