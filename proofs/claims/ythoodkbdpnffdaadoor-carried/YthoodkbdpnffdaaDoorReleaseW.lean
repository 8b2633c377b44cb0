/-
  Own work: 'Release' gives a handle back and leaves the nodes that are called for (walks).
-/
import Derived.Test.YthoodkbdpnffdaaDoorKeepA
import Derived.Test.YthoodkbdpnffdaaDoorSizeW
import Derived.Test.YthoodkbdpnffdaaDoorDgW
namespace Go.Proofs.YthoodkbdpnffdaaDoor
open Go.RowKit
open Cho (U64 Tab full col Nd Red)

def St.rel1 (st : St) (a : Nat) : St := { st with hs := st.hs.set (st.slot a) 0, rs := st.rs.set (st.slot a) 0 }
/-- The store that 'Release' leaves. -/
def St.released (st : St) (a : Nat) : St := { st.rel1 a with rs := (st.rel1 a).rs.map (Cho.moved st.ns (st.rel1 a).rs), ns := Cho.kept st.ns (st.rel1 a).rs }

/-- What holds behind the statement that keeps, whatever its order. -/
structure Kp (W V : World) (q s : Nat) (ov kv lw : Value) (ks : List Nd) (ls : List Nat) : Prop where
  dia : V.heap[q]? = some (.cells #[ov, kv] 91 (0, 0))
  lo : W.heap.size ≤ q
  row : V.ownsRow W.heap.size 122 3 kv ks.length (flat ks)
  row2 : V.ownsRow W.heap.size 81 1 lw ls.length (lv ls)
  bel : Below W.heap.size W V
theorem kp_a {W w' : World} {s : Nat} {ov kv lw : Value} {ks : List Nd} {ls : List Nat} (hr : w'.ownsRow W.drew.heap.size 122 3 kv ks.length (flat ks)) (hl : w'.ownsRow W.drew.heap.size 81 1 lw ls.length (lv ls)) (hb : Below W.drew.heap.size W.drew w') :
    Kp W (w'.alloc (.cells #[ov, kv] 91)) w'.heap.size s ov kv lw ks ls := by
  have hs := hb.size
  exact ⟨heap_res _ _, hs, hr.alloc _, hl.alloc _, ((Below.refl _ W).drew.trans hb).alloc hs _⟩
theorem kp_b {W w' : World} {s : Nat} {ov kv lw : Value} {ks : List Nd} {ls : List Nat} (hr : w'.ownsRow (W.alloc (.cells #[.slice none 0 0, .slice none 0 0] 91)).drew.heap.size 122 3 kv ks.length (flat ks))
    (hl : w'.ownsRow (W.alloc (.cells #[.slice none 0 0, .slice none 0 0] 91)).drew.heap.size 81 1 lw ls.length (lv ls)) (hb : Below (W.alloc (.cells #[.slice none 0 0, .slice none 0 0] 91)).drew.heap.size (W.alloc (.cells #[.slice none 0 0, .slice none 0 0] 91)).drew w') :
    Kp W ((w'.setCell ⟨W.heap.size, 0, none⟩ ov).setCell ⟨W.heap.size, 1, none⟩ kv) W.heap.size s ov kv lw ks ls := by
  have e : (W.alloc (.cells #[.slice none 0 0, .slice none 0 0] 91)).drew.heap.size = W.heap.size + 1 := by simp
  rw [e] at hr hl hb
  have hq : w'.heap[W.heap.size]? = some (.cells #[.slice none 0 0, .slice none 0 0] 91 (0, 0)) := (hb.block _ (by omega)).trans (heap_res _ _)
  refine ⟨two_set hq, Nat.le_refl _, owns_low (owns_far (owns_far hr (by omega)) (by omega)) (by omega), owns_low (owns_far (owns_far hl (by omega)) (by omega)) (by omega), ?_⟩
  exact ((((Below.refl _ W).alloc (Nat.le_refl _) _).drew.trans (hb.mono (by omega))).setCell (Nat.le_refl _) _).setCell (Nat.le_refl _) _
theorem kp_at {W w' : World} (hb : Below (W.alloc (.cells #[.slice none 0 0, .slice none 0 0] 91)).drew.heap.size (W.alloc (.cells #[.slice none 0 0, .slice none 0 0] 91)).drew w') : w'.heap[W.heap.size]? = some (.cells #[.slice none 0 0, .slice none 0 0] 91 (0, 0)) :=
  (hb.block _ (by simp)).trans (heap_res _ _)

/-- A store that has taken other nodes. -/
theorem take_end {w w5 : World} {s go capo B : Nat} {st st' : St} {kv : Value} {cur : Array Value} (H : StoreAt w s st) (hg : w.grownBy w5 (some s))
    (hb : w5.heap[s]? = some (.cells (cellsOf st' (.slice (some ⟨go, 0, none⟩) st'.ord.length capo) kv).toArray 93 (0, 0)))
    (ho : OrdAt w5 go st'.ord) (hcur : w5.heap[go]? = some (.cells cur 3 (0, 0))) (hcap : st'.ord.length ≤ capo) (hr : w5.ownsRow B 122 3 kv st'.ns.length (flat st'.ns))
    (hs30 : st'.hs.length = 30) (rs30 : st'.rs.length = 30) (en : st'.n = st.n) (er : st'.room = st.room) (eg : st'.given = st.given) (hl : st'.ord.length = st.n) (hm : ∀ v ∈ st'.ord, v < st.n) : StoreAt w5 s st' :=
  ⟨H.pos, ⟨go, capo, kv, B, hb, ho, ⟨cur, hcur⟩, hcap, hr⟩, hs30, rs30, by rw [eg]; exact H.given, by rw [en]; exact H.n6, by rw [en]; exact hl, by rw [en]; exact hm, by rw [er]; exact H.room, H.cols.grown hg (by have := H.pos; simp; omega)⟩

set_option maxRecDepth 100000 in
set_option maxHeartbeats 1000000 in
theorem release_walk (s a : Nat) (st : St) (w : World) (h : Has w s st) (hl : st.live a) :
    Calls Tryd.prog 28 #[.pointer (some ⟨s, 0, none⟩), .int .u32 a] w fun e w' => e = .returned (.int .i64 0) ∧ StoreAt w' s (st.released a) ∧ w.grownBy w' (some s) := by
  have H : Hid (Has w s st) := h
  obtain ⟨go, capo, nv, B, hb, ho, ⟨cur, hcur⟩, hcap, hr⟩ := h.lies.ex
  have hslot := slot_calls s a st _ nv w hb h.lies.hs30
  have hl' : st.slot a < 30 := hl
  rw [ixOr_lt hl'] at hslot
  have HS : Hid (Calls Tryd.prog 55 #[.pointer (some ⟨s, 0, none⟩), .int .u32 a] w fun e w' => e = .returned (.int .i64 (st.slot a : Nat)) ∧ w' = w) := hslot
  have hsw := lt_of_block hb
  have fz : ∀ j, w.frozen? ⟨s, j, none⟩ = false := fun j => frozen_of_block hb j
  have qh : ∃ x, w.cell? ⟨s, 3 + st.slot a, none⟩ = some x := ⟨_, (cell_of_block hb _).trans (by rw [List.getElem?_toArray, at_h h.lies.hs30 _ hl'])⟩
  have qr : ∃ x, w.cell? ⟨s, 33 + st.slot a, none⟩ = some x := ⟨_, (cell_of_block hb _).trans (by rw [List.getElem?_toArray, at_r h.lies.hs30 h.lies.rs30 _ hl'])⟩
  obtain ⟨xh, qh⟩ := qh
  obtain ⟨xr, qr⟩ := qr
  have HBK : Hid (((w.setCell ⟨s, 3 + st.slot a, none⟩ (.int .u32 0)).setCell ⟨s, 33 + st.slot a, none⟩ (.int .i64 0)).heap[s]? = some (.cells (cellsOf (st.rel1 a) (.slice (some ⟨go, 0, none⟩) st.ord.length capo) nv).toArray 93 (0, 0))) := by
    have := block_set (j := 33 + st.slot a) (x := .int .i64 ((0 : Nat) : Int)) (block_set (j := 3 + st.slot a) (x := .int .u32 ((0 : Nat) : Int)) hb)
    rw [set_h h.lies.hs30 _ _ hl', set_r (st := { st with hs := st.hs.set (st.slot a) 0 }) (by simp [h.lies.hs30]) h.lies.rs30 _ _ hl'] at this
    exact this
  have HG0 : Hid (w.grownBy ((w.setCell ⟨s, 3 + st.slot a, none⟩ (.int .u32 0)).setCell ⟨s, 33 + st.slot a, none⟩ (.int .i64 0)) (some s)) := grown_set (grown_set (grown_refl w (some s)))
  have HOR : Hid (OrdAt w go st.ord ∧ (∃ cur, w.heap[go]? = some (.cells cur 3 (0, 0))) ∧ st.ord.length ≤ capo) := ⟨ho, ⟨cur, hcur⟩, hcap⟩
  have HRW : Hid (w.ownsRow B 122 3 nv st.ns.length (flat st.ns)) := hr
  have HB0 : Hid (w.heap[s]? = some (.cells (cellsOf st (.slice (some ⟨go, 0, none⟩) st.ord.length capo) nv).toArray 93 (0, 0))) := hb
  clear hslot h hb ho hcur hr
  generalize hk : st.slot a = k at *
  have HK : Hid (st.slot a = k) := hk
  clear hk
  go_enter Tryd.func28, Tryd.ntmps28
  go_wp2_with fail
  refine HS.out.mono ?_
  rintro e w1 ⟨rfl, rfl⟩
  go_wp2_with fail
  have HRS : Hid (∀ l ∈ (st.rel1 a).rs, l < st.ns.length + 2) := by
    intro l hm
    rcases List.mem_or_eq_of_mem_set hm with h | h
    · obtain ⟨i, hi, rfl⟩ := List.getElem_of_mem h
      exact H.out.inv.rs i hi
    · omega
  have h30 : (st.rel1 a).hs.length = 30 := by simp [St.rel1, H.out.lies.hs30]
  have r30 : (st.rel1 a).rs.length = 30 := by simp [St.rel1, H.out.lies.rs30]
  have ons : (st.rel1 a).ns = st.ns := rfl
  have hfew := H.out.few
  have hr2 : ((w1.setCell ⟨s, 3 + k, none⟩ (.int .u32 0)).setCell ⟨s, 33 + k, none⟩ (.int .i64 0)).ownsRow B 122 3 nv st.ns.length (flat st.ns) := by
    have hne : ∀ g, nv.ownBlock = some g → g ≠ s := by
      intro g hgb e
      subst e
      obtain ⟨_, ⟨rfl, _⟩ | ⟨g', cap, cu, rfl, _, h2, _⟩⟩ := HRW.out
      · simp [Value.ownBlock] at hgb
      · obtain rfl : g' = g := by simpa [Value.ownBlock] using hgb
        have := HB0.out
        rw [h2] at this; simp at this
    exact owns_kept HRW.out fun g hg => by rw [block_set_other (by simpa using hne g hg), block_set_other (by simpa using hne g hg)]
  have hszW : ((w1.setCell ⟨s, 3 + k, none⟩ (.int .u32 0)).setCell ⟨s, 33 + k, none⟩ (.int .i64 0)).heap.size = w1.heap.size := by simp [World.setCell]
  clear qh qr fz
  generalize (w1.setCell ⟨s, 3 + k, none⟩ (.int .u32 0)).setCell ⟨s, 33 + k, none⟩ (.int .i64 0) = W at *
  have d0 : W.cell? ⟨s, 63, none⟩ = some (.slice (some ⟨go, 0, none⟩) st.ord.length capo) := (cell_of_block HBK.out 63).trans (by rw [List.getElem?_toArray, at_63 h30 r30])
  have d1 : W.cell? ⟨s, 63 + 1, none⟩ = some nv := (cell_of_block HBK.out 64).trans (by rw [List.getElem?_toArray, at_64 h30 r30])
  have dl : ∀ i (hi : i < (st.rel1 a).rs.length), W.cell? ⟨s, 33 + i, none⟩ = some (.int .i64 ((st.rel1 a).rs[i] : Nat)) := fun i hi => (cell_of_block HBK.out _).trans (by rw [List.getElem?_toArray, at_r h30 r30 _ (by omega)])
  have hsW := lt_of_block HBK.out
  have KC : Hid (∀ X, Below W.heap.size W X → Calls Tryd.prog 56 #[.pointer (some ⟨s, 63, none⟩), .slice (some ⟨s, 33, none⟩) 30 30] X fun e w' => ∃ kv lw,
      e = .returned (.tuple #[.agg #[.slice (some ⟨go, 0, none⟩) st.ord.length capo, kv], lw]) ∧
      w'.ownsRow X.heap.size 122 3 kv (Cho.kept st.ns (st.rel1 a).rs).length (flat (Cho.kept st.ns (st.rel1 a).rs)) ∧
      w'.ownsRow X.heap.size 81 1 lw ((st.rel1 a).rs.map (Cho.moved st.ns (st.rel1 a).rs)).length (lv ((st.rel1 a).rs.map (Cho.moved st.ns (st.rel1 a).rs))) ∧ Below X.heap.size X w') := by
    intro X hX
    have hk := keep_calls s 63 B go capo s 33 30 st.ord st.ns nv (st.rel1 a).rs X ((hX.cell (p := ⟨s, 63, none⟩) hsW).trans d0) ((hX.cell (p := ⟨s, 63 + 1, none⟩) hsW).trans d1)
      (owns_below hr2 hX rfl) (fun i hi => (hX.cell (p := ⟨s, 33 + i, none⟩) hsW).trans (dl i hi)) (by have := hX.size; omega) HRS.out H.out.inv.red.wf (by omega) (by omega)
    rw [r30] at hk
    refine hk.mono ?_
    rintro e w' ⟨kv, lw, rfl, h1, h2, h3⟩
    refine ⟨kv, lw, rfl, h1, ?_, h3⟩
    rw [List.length_map, r30]
    exact h2
  have HR2 : Hid (W.ownsRow B 122 3 nv st.ns.length (flat st.ns)) := hr2
  have hl30 : ((st.rel1 a).rs.map (Cho.moved st.ns (st.rel1 a).rs)).length = 30 := by rw [List.length_map, r30]
  have HREL : Hid (st.released a = { st.rel1 a with rs := (st.rel1 a).rs.map (Cho.moved st.ns (st.rel1 a).rs), ns := Cho.kept st.ns (st.rel1 a).rs }) := rfl
  clear d0 d1 dl hr2 HRS ons HRW hszW
  generalize (st.rel1 a).rs.map (Cho.moved st.ns (st.rel1 a).rs) = rs' at *
  generalize Cho.kept st.ns (st.rel1 a).rs = ks at *
  have hneW : ¬ s = W.heap.size := by omega
  have HL30 : Hid (rs'.length = 30) := hl30
  have H3030 : Hid ((st.rel1 a).hs.length = 30 ∧ (st.rel1 a).rs.length = 30) := ⟨h30, r30⟩
  clear hl30 h30 r30
  go_region_held3 (fun _ => True) (trivial)
    (first
      | (go_at_call 56; refine (KC.out W.drew (Below.refl _ _).drew).mono ?_; rintro e w' ⟨kv, lw, rfl, hk1, hk2, hk3⟩; obtain ⟨ak, capk, rfl⟩ := owns_slice hk1; obtain ⟨gl, capl, rfl, _, _⟩ := owns_form hk2 (by rw [HL30.out]; omega); have HKP : Hid _ := kp_a (s := s) (ov := .slice (some ⟨go, 0, none⟩) st.ord.length capo) hk1 hk2 hk3; clear hk1 hk2 hk3)
      | (go_at_call 56; refine (KC.out (W.alloc (.cells #[.slice none 0 0, .slice none 0 0] 91)).drew ((Below.refl _ _).alloc (Nat.le_refl _) _).drew).mono ?_; rintro e w' ⟨kv, lw, rfl, hk1, hk2, hk3⟩; obtain ⟨ak, capk, rfl⟩ := owns_slice hk1; obtain ⟨gl, capl, rfl, _, _⟩ := owns_form hk2 (by rw [HL30.out]; omega); have HKP : Hid _ := kp_b (s := s) (ov := .slice (some ⟨go, 0, none⟩) st.ord.length capo) hk1 hk2 hk3; have hat := kp_at hk3; have hltw := lt_of_block hat; have p0 := cell_of_block hat 0; have p1 := cell_of_block hat 1; have f0 := frozen_of_block hat 0; have f1 := frozen_of_block hat 1; clear hk1 hk2 hk3 hat))
  rotate_left
  clear p0 p1 f0 f1 hltw
  generalize (w'.setCell ⟨W.heap.size, 0, none⟩ (.slice (some ⟨go, 0, none⟩) st.ord.length capo)).setCell ⟨W.heap.size, 1, none⟩ (.slice ak ks.length capk) = V at *
  rotate_left
  generalize w'.alloc (.cells #[.slice (some ⟨go, 0, none⟩) st.ord.length capo, .slice ak ks.length capk] 91) = V at *
  all_goals
    have hd := HKP.out.dia
    have p0 := cell_of_block hd 0
    have p1 := cell_of_block hd 1
    have hq := lt_of_block hd
    have hlo := HKP.out.lo
    have hVs := (HKP.out.bel.block s hsW).trans HBK.out
    have hsV := lt_of_block hVs
    have hgl := HKP.out.row2.lt gl rfl
    have hneg : gl ≠ s := by omega
    have HTK : Hid (Calls Tryd.prog 57 #[.pointer (some ⟨s, 0, none⟩), .agg #[.slice (some ⟨go, 0, none⟩) st.ord.length capo, .slice ak ks.length capk], .slice (some ⟨gl, 0, none⟩) 30 capl] V fun e w' => e = .returned (.tuple #[]) ∧
      w'.heap[s]? = some (.cells (cellsOf { st.rel1 a with rs := rs' } (.slice (some ⟨go, 0, none⟩) st.ord.length capo) (.slice ak ks.length capk)).toArray 93 (0, 0)) ∧ V.grownBy w' (some s)) :=
      take_calls s gl capl (st.rel1 a) _ _ _ _ _ _ _ _ rs' V hVs H3030.out.1 H3030.out.2 HL30.out (HKP.out.row2.cells (g := gl) rfl) hneg
    have FIN : Hid (∀ w5, w5.heap[s]? = some (.cells (cellsOf { st.rel1 a with rs := rs' } (.slice (some ⟨go, 0, none⟩) st.ord.length capo) (.slice ak ks.length capk)).toArray 93 (0, 0)) → V.grownBy w5 (some s) → StoreAt w5 s (st.released a) ∧ w1.grownBy w5 (some s)) := by
      intro w5 h5 g5
      rw [HREL.out]
      obtain ⟨ho, ⟨cur, hcur⟩, hcap⟩ := HOR.out
      have hgV : w1.grownBy V (some s) := grown_trans HG0.out (grown_of_below HKP.out.bel)
      have hg5 := grown_trans hgV g5
      have hgos : go ≠ s := by
        obtain ⟨_, _, _, _, h, _⟩ := H.out.lies.ex
        rintro rfl; rw [hcur] at h; simp at h
      have hgo5 := hg5.block go (lt_of_block hcur) (by simpa using hgos)
      refine ⟨take_end (st' := { st.rel1 a with rs := rs', ns := ks }) (B := W.heap.size) H.out.lies hg5 h5 (fun i hi => (World.cell?_of_block (a := ⟨go, i, none⟩) hgo5).trans (ho i hi)) (hgo5.trans hcur) hcap ?_ H3030.out.1 HL30.out rfl rfl rfl H.out.lies.ordl H.out.lies.ord6, hg5⟩
      exact owns_kept HKP.out.row fun g hg => g5.block g (HKP.out.row.lt g hg).2 (by have := (HKP.out.row.lt g hg).1; simp; omega)
    clear hd hVs
    go_wp2_with fail
    rw [HL30.out]
    refine HTK.out.mono ?_
    rintro e w5 ⟨rfl, h5, g5⟩
    have H5 : Hid _ := FIN.out w5 h5 g5
    clear h5 g5
    go_wp2_with fail
    go_ret
    exact ⟨rfl, H5.out⟩
end Go.Proofs.YthoodkbdpnffdaaDoor
