/-
  Own work: 'Release' gives a handle back and leaves the nodes that are called for (walks).
-/
import Derived.Test.YthoodkbdpnffdabGreatDoorKeepA
import Derived.Test.YthoodkbdpnffdabGreatDoorTakeW
import Derived.Test.YthoodkbdpnffdabGreatDoorInv
import Derived.Test.YthoodkbdpnffdabGreatDoorStoreM
import Derived.Test.YthoodkbdpnffdabGreatDoorPlainI
namespace Go.Proofs.YthoodkbdpnffdabGreatDoor
open Go.RowKit
open Cho (U64 Tab full col Nd Red)

def St.rel1 (st : St) (a : Nat) : St := { st with hs := st.hs.set (st.slot a) 0, rs := st.rs.set (st.slot a) 0 }
/-- The store that 'Release' leaves. -/
def St.released (st : St) (a : Nat) : St := { st.rel1 a with rs := (st.rel1 a).rs.map (Cho.moved st.ns (st.rel1 a).rs), ns := Cho.kept st.ns (st.rel1 a).rs }

/-- What holds behind the statement that keeps, whatever its order. -/
structure Kp (W V : World) (q s : Nat) (ov kv lw : Value) (ks : List Nd) (ls : List Nat) : Prop where
  dia : V.heap[q]? = some (.cells #[ov, kv] 54 (0, 0))
  lo : W.heap.size ≤ q
  row : V.ownsRow W.heap.size 153 3 kv ks.length (flat ks)
  row2 : V.ownsRow W.heap.size 59 1 lw ls.length (lv ls)
  bel : Below W.heap.size W V
theorem kp_a {W w' : World} {s : Nat} {ov kv lw : Value} {ks : List Nd} {ls : List Nat} (hr : w'.ownsRow W.drew.heap.size 153 3 kv ks.length (flat ks)) (hl : w'.ownsRow W.drew.heap.size 59 1 lw ls.length (lv ls)) (hb : Below W.drew.heap.size W.drew w') :
    Kp W (w'.alloc (.cells #[ov, kv] 54)) w'.heap.size s ov kv lw ks ls := by
  have hs := hb.size
  exact ⟨heap_res _ _, hs, hr.alloc _, hl.alloc _, ((Below.refl _ W).drew.trans hb).alloc hs _⟩
theorem kp_b {W w' : World} {s : Nat} {ov kv lw : Value} {ks : List Nd} {ls : List Nat} (hr : w'.ownsRow (W.alloc (.cells #[.slice none 0 0, .slice none 0 0] 54)).drew.heap.size 153 3 kv ks.length (flat ks))
    (hl : w'.ownsRow (W.alloc (.cells #[.slice none 0 0, .slice none 0 0] 54)).drew.heap.size 59 1 lw ls.length (lv ls)) (hb : Below (W.alloc (.cells #[.slice none 0 0, .slice none 0 0] 54)).drew.heap.size (W.alloc (.cells #[.slice none 0 0, .slice none 0 0] 54)).drew w') :
    Kp W ((w'.setCell ⟨W.heap.size, 0, none⟩ ov).setCell ⟨W.heap.size, 1, none⟩ kv) W.heap.size s ov kv lw ks ls := by
  have e : (W.alloc (.cells #[.slice none 0 0, .slice none 0 0] 54)).drew.heap.size = W.heap.size + 1 := by simp
  rw [e] at hr hl hb
  have hq : w'.heap[W.heap.size]? = some (.cells #[.slice none 0 0, .slice none 0 0] 54 (0, 0)) := (hb.block _ (by omega)).trans (heap_res _ _)
  refine ⟨two_set hq, Nat.le_refl _, owns_low (owns_far (owns_far hr (by omega)) (by omega)) (by omega), owns_low (owns_far (owns_far hl (by omega)) (by omega)) (by omega), ?_⟩
  exact ((((Below.refl _ W).alloc (Nat.le_refl _) _).drew.trans (hb.mono (by omega))).setCell (Nat.le_refl _) _).setCell (Nat.le_refl _) _
theorem kp_at {W w' : World} (hb : Below (W.alloc (.cells #[.slice none 0 0, .slice none 0 0] 54)).drew.heap.size (W.alloc (.cells #[.slice none 0 0, .slice none 0 0] 54)).drew w') : w'.heap[W.heap.size]? = some (.cells #[.slice none 0 0, .slice none 0 0] 54 (0, 0)) :=
  (hb.block _ (by simp)).trans (heap_res _ _)

/-- A store that has taken other nodes. -/
theorem take_end {w w5 : World} {s go capo B : Nat} {st st' : St} {kv : Value} {cur : Array Value} (H : StoreAt w s st) (hg : w.grownBy w5 (some s))
    (hb : w5.heap[s]? = some (.cells (cellsOf st' (.slice (some ⟨go, 0, none⟩) st'.ord.length capo) kv).toArray 62 (0, 0)))
    (ho : OrdAt w5 go st'.ord) (hcur : w5.heap[go]? = some (.cells cur 3 (0, 0))) (hcap : st'.ord.length ≤ capo) (hr : w5.ownsRow B 153 3 kv st'.ns.length (flat st'.ns))
    (hs30 : st'.hs.length = 30) (rs30 : st'.rs.length = 30) (en : st'.n = st.n) (er : st'.room = st.room) (eg : st'.given = st.given) (hl : st'.ord.length = st.n) (hm : ∀ v ∈ st'.ord, v < st.n) : StoreAt w5 s st' :=
  ⟨H.pos, ⟨go, capo, kv, B, hb, ho, ⟨cur, hcur⟩, hcap, hr⟩, hs30, rs30, by rw [eg]; exact H.given, by rw [en]; exact H.n6, by rw [en]; exact hl, by rw [en]; exact hm, by rw [er]; exact H.room, H.cols.grown hg (by have := H.pos; simp; omega)⟩

set_option maxRecDepth 100000 in
set_option maxHeartbeats 1000000 in
theorem release_walk (s a : Nat) (st : St) (w : World) (h : Has w s st) (hl : st.live a) :
    Calls Tryz.prog 30 #[.pointer (some ⟨s, 0, none⟩), .int .u32 a] w fun e w' => e = .returned (.int .i64 0) ∧ StoreAt w' s (st.released a) ∧ w.grownBy w' (some s) := by
  have H : Hid (Has w s st) := h
  obtain ⟨go, capo, nv, B, hb, ho, ⟨cur, hcur⟩, hcap, hr⟩ := h.lies.ex
  have hslot := slot_calls s a st _ nv w hb h.lies.hs30
  have hl' : st.slot a < 30 := hl
  rw [ixOr_lt hl'] at hslot
  have HS : Hid (Calls Tryz.prog 79 #[.pointer (some ⟨s, 0, none⟩), .int .u32 a] w fun e w' => e = .returned (.int .i64 (st.slot a : Nat)) ∧ w' = w) := hslot
  have hsw := lt_of_block hb
  have fz : ∀ j, w.frozen? ⟨s, j, none⟩ = false := fun j => frozen_of_block hb j
  have qh : ∃ x, w.cell? ⟨s, 3 + st.slot a, none⟩ = some x := ⟨_, (cell_of_block hb _).trans (by rw [List.getElem?_toArray, at_h h.lies.hs30 _ hl'])⟩
  have qr : ∃ x, w.cell? ⟨s, 33 + st.slot a, none⟩ = some x := ⟨_, (cell_of_block hb _).trans (by rw [List.getElem?_toArray, at_r h.lies.hs30 h.lies.rs30 _ hl'])⟩
  obtain ⟨xh, qh⟩ := qh
  obtain ⟨xr, qr⟩ := qr
  have HBK : Hid (((w.setCell ⟨s, 3 + st.slot a, none⟩ (.int .u32 0)).setCell ⟨s, 33 + st.slot a, none⟩ (.int .i64 0)).heap[s]? = some (.cells (cellsOf (st.rel1 a) (.slice (some ⟨go, 0, none⟩) st.ord.length capo) nv).toArray 62 (0, 0))) := by
    have := block_set (j := 33 + st.slot a) (x := .int .i64 ((0 : Nat) : Int)) (block_set (j := 3 + st.slot a) (x := .int .u32 ((0 : Nat) : Int)) hb)
    rw [set_h h.lies.hs30 _ _ hl', set_r (st := { st with hs := st.hs.set (st.slot a) 0 }) (by simp [h.lies.hs30]) h.lies.rs30 _ _ hl'] at this
    exact this
  have HG0 : Hid (w.grownBy ((w.setCell ⟨s, 3 + st.slot a, none⟩ (.int .u32 0)).setCell ⟨s, 33 + st.slot a, none⟩ (.int .i64 0)) (some s)) := grown_set (grown_set (grown_refl w (some s)))
  have HOR : Hid (OrdAt w go st.ord ∧ (∃ cur, w.heap[go]? = some (.cells cur 3 (0, 0))) ∧ st.ord.length ≤ capo) := ⟨ho, ⟨cur, hcur⟩, hcap⟩
  have HRW : Hid (w.ownsRow B 153 3 nv st.ns.length (flat st.ns)) := hr
  have HB0 : Hid (w.heap[s]? = some (.cells (cellsOf st (.slice (some ⟨go, 0, none⟩) st.ord.length capo) nv).toArray 62 (0, 0))) := hb
  clear hslot h hb ho hcur hr
  generalize hk : st.slot a = k at *
  have HK : Hid (st.slot a = k) := hk
  clear hk
  go_enter Tryz.func30, Tryz.ntmps30
  go_wp2_with fail
  refine HS.out.mono ?_
  rintro e w1 ⟨rfl, rfl⟩
  go_wp2_with fail
  have HRS : Hid (∀ l ∈ (st.rel1 a).rs, l < st.ns.length + 2) := by
    intro l hm
    rcases List.mem_or_eq_of_mem_set hm with h | h
    · obtain ⟨i, hi, rfl⟩ := List.getElem_of_mem h
      exact H.out.inv.rs i hi
    · omega
  have h30 : (st.rel1 a).hs.length = 30 := by simp [St.rel1, H.out.lies.hs30]
  have r30 : (st.rel1 a).rs.length = 30 := by simp [St.rel1, H.out.lies.rs30]
  have ons : (st.rel1 a).ns = st.ns := rfl
  have hfew := H.out.few
  have hr2 : ((w1.setCell ⟨s, 3 + k, none⟩ (.int .u32 0)).setCell ⟨s, 33 + k, none⟩ (.int .i64 0)).ownsRow B 153 3 nv st.ns.length (flat st.ns) := by
    have hne : ∀ g, nv.ownBlock = some g → g ≠ s := by
      intro g hgb e
      subst e
      obtain ⟨_, ⟨rfl, _⟩ | ⟨g', cap, cu, rfl, _, h2, _⟩⟩ := HRW.out
      · simp [Value.ownBlock] at hgb
      · obtain rfl : g' = g := by simpa [Value.ownBlock] using hgb
        have := HB0.out
        rw [h2] at this; simp at this
    exact owns_kept HRW.out fun g hg => by rw [block_set_other (by simpa using hne g hg), block_set_other (by simpa using hne g hg)]
  have hszW : ((w1.setCell ⟨s, 3 + k, none⟩ (.int .u32 0)).setCell ⟨s, 33 + k, none⟩ (.int .i64 0)).heap.size = w1.heap.size := by simp [World.setCell]
  clear qh qr fz
  generalize (w1.setCell ⟨s, 3 + k, none⟩ (.int .u32 0)).setCell ⟨s, 33 + k, none⟩ (.int .i64 0) = W at *
  have d0 : W.cell? ⟨s, 63, none⟩ = some (.slice (some ⟨go, 0, none⟩) st.ord.length capo) := (cell_of_block HBK.out 63).trans (by rw [List.getElem?_toArray, at_63 h30 r30])
  have d1 : W.cell? ⟨s, 63 + 1, none⟩ = some nv := (cell_of_block HBK.out 64).trans (by rw [List.getElem?_toArray, at_64 h30 r30])
  have dl : ∀ i (hi : i < (st.rel1 a).rs.length), W.cell? ⟨s, 33 + i, none⟩ = some (.int .i64 ((st.rel1 a).rs[i] : Nat)) := fun i hi => (cell_of_block HBK.out _).trans (by rw [List.getElem?_toArray, at_r h30 r30 _ (by omega)])
  have hsW := lt_of_block HBK.out
  have KC : Hid (∀ X, Below W.heap.size W X → Calls Tryz.prog 80 #[.pointer (some ⟨s, 63, none⟩), .slice (some ⟨s, 33, none⟩) 30 30] X fun e w' => ∃ kv lw,
      e = .returned (.tuple #[.agg #[.slice (some ⟨go, 0, none⟩) st.ord.length capo, kv], lw]) ∧
      w'.ownsRow X.heap.size 153 3 kv (Cho.kept st.ns (st.rel1 a).rs).length (flat (Cho.kept st.ns (st.rel1 a).rs)) ∧
      w'.ownsRow X.heap.size 59 1 lw ((st.rel1 a).rs.map (Cho.moved st.ns (st.rel1 a).rs)).length (lv ((st.rel1 a).rs.map (Cho.moved st.ns (st.rel1 a).rs))) ∧ Below X.heap.size X w') := by
    intro X hX
    have hk := keep_calls s 63 B go capo s 33 30 st.ord st.ns nv (st.rel1 a).rs X ((hX.cell (p := ⟨s, 63, none⟩) hsW).trans d0) ((hX.cell (p := ⟨s, 63 + 1, none⟩) hsW).trans d1)
      (owns_below hr2 hX rfl) (fun i hi => (hX.cell (p := ⟨s, 33 + i, none⟩) hsW).trans (dl i hi)) (by have := hX.size; omega) HRS.out H.out.inv.red.wf (by omega) (by omega)
    rw [r30] at hk
    refine hk.mono ?_
    rintro e w' ⟨kv, lw, rfl, h1, h2, h3⟩
    refine ⟨kv, lw, rfl, h1, ?_, h3⟩
    rw [List.length_map, r30]
    exact h2
  have HR2 : Hid (W.ownsRow B 153 3 nv st.ns.length (flat st.ns)) := hr2
  have hl30 : ((st.rel1 a).rs.map (Cho.moved st.ns (st.rel1 a).rs)).length = 30 := by rw [List.length_map, r30]
  have HREL : Hid (st.released a = { st.rel1 a with rs := (st.rel1 a).rs.map (Cho.moved st.ns (st.rel1 a).rs), ns := Cho.kept st.ns (st.rel1 a).rs }) := rfl
  clear d0 d1 dl hr2 HRS ons HRW hszW
  generalize (st.rel1 a).rs.map (Cho.moved st.ns (st.rel1 a).rs) = rs' at *
  generalize Cho.kept st.ns (st.rel1 a).rs = ks at *
  have hneW : ¬ s = W.heap.size := by omega
  have HL30 : Hid (rs'.length = 30) := hl30
  have H3030 : Hid ((st.rel1 a).hs.length = 30 ∧ (st.rel1 a).rs.length = 30) := ⟨h30, r30⟩
  clear hl30 h30 r30
  go_region_held3 (fun _ => True) (trivial)
    (first
      | (go_at_call 80; refine (KC.out W.drew (Below.refl _ _).drew).mono ?_; rintro e w' ⟨kv, lw, rfl, hk1, hk2, hk3⟩; obtain ⟨ak, capk, rfl⟩ := owns_slice hk1; obtain ⟨gl, capl, rfl, _, _⟩ := owns_form hk2 (by rw [HL30.out]; omega); have HKP : Hid _ := kp_a (s := s) (ov := .slice (some ⟨go, 0, none⟩) st.ord.length capo) hk1 hk2 hk3; clear hk1 hk2 hk3)
      | (go_at_call 80; refine (KC.out (W.alloc (.cells #[.slice none 0 0, .slice none 0 0] 54)).drew ((Below.refl _ _).alloc (Nat.le_refl _) _).drew).mono ?_; rintro e w' ⟨kv, lw, rfl, hk1, hk2, hk3⟩; obtain ⟨ak, capk, rfl⟩ := owns_slice hk1; obtain ⟨gl, capl, rfl, _, _⟩ := owns_form hk2 (by rw [HL30.out]; omega); have HKP : Hid _ := kp_b (s := s) (ov := .slice (some ⟨go, 0, none⟩) st.ord.length capo) hk1 hk2 hk3; have hat := kp_at hk3; have hltw := lt_of_block hat; have p0 := cell_of_block hat 0; have p1 := cell_of_block hat 1; have f0 := frozen_of_block hat 0; have f1 := frozen_of_block hat 1; clear hk1 hk2 hk3 hat))
  rotate_left
  clear p0 p1 f0 f1 hltw
  generalize (w'.setCell ⟨W.heap.size, 0, none⟩ (.slice (some ⟨go, 0, none⟩) st.ord.length capo)).setCell ⟨W.heap.size, 1, none⟩ (.slice ak ks.length capk) = V at *
  rotate_left
  generalize w'.alloc (.cells #[.slice (some ⟨go, 0, none⟩) st.ord.length capo, .slice ak ks.length capk] 54) = V at *
  all_goals
    have hd := HKP.out.dia
    have p0 := cell_of_block hd 0
    have p1 := cell_of_block hd 1
    have hq := lt_of_block hd
    have hlo := HKP.out.lo
    have hVs := (HKP.out.bel.block s hsW).trans HBK.out
    have hsV := lt_of_block hVs
    have hgl := HKP.out.row2.lt gl rfl
    have hneg : gl ≠ s := by omega
    have HTK : Hid (Calls Tryz.prog 81 #[.pointer (some ⟨s, 0, none⟩), .agg #[.slice (some ⟨go, 0, none⟩) st.ord.length capo, .slice ak ks.length capk], .slice (some ⟨gl, 0, none⟩) 30 capl] V fun e w' => e = .returned (.tuple #[]) ∧
      w'.heap[s]? = some (.cells (cellsOf { st.rel1 a with rs := rs' } (.slice (some ⟨go, 0, none⟩) st.ord.length capo) (.slice ak ks.length capk)).toArray 62 (0, 0)) ∧ V.grownBy w' (some s)) :=
      take_calls s gl capl (st.rel1 a) _ _ _ _ _ _ _ _ rs' V hVs H3030.out.1 H3030.out.2 HL30.out (HKP.out.row2.cells (g := gl) rfl) hneg
    have FIN : Hid (∀ w5, w5.heap[s]? = some (.cells (cellsOf { st.rel1 a with rs := rs' } (.slice (some ⟨go, 0, none⟩) st.ord.length capo) (.slice ak ks.length capk)).toArray 62 (0, 0)) → V.grownBy w5 (some s) → StoreAt w5 s (st.released a) ∧ w1.grownBy w5 (some s)) := by
      intro w5 h5 g5
      rw [HREL.out]
      obtain ⟨ho, ⟨cur, hcur⟩, hcap⟩ := HOR.out
      have hgV : w1.grownBy V (some s) := grown_trans HG0.out (grown_of_below HKP.out.bel)
      have hg5 := grown_trans hgV g5
      have hgos : go ≠ s := by
        obtain ⟨_, _, _, _, h, _⟩ := H.out.lies.ex
        rintro rfl; rw [hcur] at h; simp at h
      have hgo5 := hg5.block go (lt_of_block hcur) (by simpa using hgos)
      refine ⟨take_end (st' := { st.rel1 a with rs := rs', ns := ks }) (B := W.heap.size) H.out.lies hg5 h5 (fun i hi => (World.cell?_of_block (a := ⟨go, i, none⟩) hgo5).trans (ho i hi)) (hgo5.trans hcur) hcap ?_ H3030.out.1 HL30.out rfl rfl rfl H.out.lies.ordl H.out.lies.ord6, hg5⟩
      exact owns_kept HKP.out.row fun g hg => g5.block g (HKP.out.row.lt g hg).2 (by have := (HKP.out.row.lt g hg).1; simp; omega)
    clear hd hVs
    go_wp2_with fail
    rw [HL30.out]
    refine HTK.out.mono ?_
    rintro e w5 ⟨rfl, h5, g5⟩
    have H5 : Hid _ := FIN.out w5 h5 g5
    clear h5 g5
    go_wp2_with fail
    go_ret
    exact ⟨rfl, H5.out⟩
end Go.Proofs.YthoodkbdpnffdabGreatDoor

/-
  Own work: no node is there in vain: stores whose nodes are all called for (plain mathematics over the store as it lies).
-/
namespace Go.Proofs.YthoodkbdpnffdabGreatDoor
open Cho (U64 Tab full col Nd Red)

structure Clean (st : St) : Prop where
  full : ∀ k, k < st.ns.length → Cho.Reach st.ns st.rs (k + 2)
  zero : ∀ i (h : i < st.hs.length) (h' : i < st.rs.length), st.hs[i] = 0 → st.rs[i] = 0
  nd : ∀ i j (hi : i < st.hs.length) (hj : j < st.hs.length), st.hs[i] = st.hs[j] → st.hs[i] ≠ 0 → i = j

theorem clean_empty (n room : Nat) : Clean (St.empty n room) := by
  refine ⟨fun k h => absurd h (by simp [St.empty]), fun i h h' _ => List.getElem_replicate (n := 30) (a := 0) (by simpa [St.empty] using h'), fun i j hi hj _ h => absurd (List.getElem_replicate (n := 30) (a := 0) (by simpa [St.empty] using hi)) h⟩

theorem clean_added {st : St} (hi : Inv st) (h : Clean st) (t : Nat) (hf : st.free < 30) : Clean (st.added t) := by
  have hfl : st.free < st.hs.length := by rw [hi.hs30]; exact hf
  have hfr : st.free < st.rs.length := by rw [hi.rs30]; exact hf
  have hf0 : st.hs[st.free] = 0 := List.getElem_idxOf hfl
  have hr0 : st.rs[st.free] = 0 := h.zero _ hfl hfr hf0
  obtain ⟨ms, hms, hnew⟩ := Cho.build_full st.ord t st.ns
  have hns : (st.added t).ns = st.ns ++ ms := hms
  have hrs : (st.added t).rs = st.rs.set st.free (Cho.build st.ord t st.ns).2 := rfl
  have hmem : (Cho.build st.ord t st.ns).2 ∈ (st.added t).rs := by
    rw [hrs]; exact List.mem_set hfr _
  refine ⟨?_, ?_, ?_⟩
  · intro k hk
    rw [hns] at hk ⊢
    by_cases hlt : k < st.ns.length
    · refine Cho.reach_big (Cho.reach_append (h.full k hlt)) (by omega) ?_
      intro m hm
      obtain ⟨i, hil, rfl⟩ := List.getElem_of_mem hm
      by_cases e : i = st.free
      · subst e; left; omega
      · right
        rw [hrs]
        have : (st.rs.set st.free (Cho.build st.ord t st.ns).2)[i]'(by simpa using hil) = st.rs[i] := List.getElem_set_ne (Ne.symm e) _
        rw [← this]; exact List.getElem_mem _
    · exact Cho.reach_trans (hnew k (by omega) hk) fun m hm => Cho.reach_self _ (by simp at hm; subst hm; exact hmem)
  · intro i h1 h2 h0
    simp only [St.added] at h1 h2 h0 ⊢
    by_cases e : i = st.free
    · subst e; rw [List.getElem_set_self] at h0; omega
    · rw [List.getElem_set_ne (Ne.symm e)] at h0 ⊢
      exact h.zero i (by simpa using h1) (by simpa using h2) h0
  · intro i j h1 h2 he hne
    simp only [St.added] at h1 h2 he hne
    have b1 : i < st.hs.length := by simpa using h1
    have b2 : j < st.hs.length := by simpa using h2
    rw [List.getElem_set] at he hne
    rw [List.getElem_set] at he
    have g1 := hi.hs i b1
    have g2 := hi.hs j b2
    by_cases e1 : st.free = i
    · by_cases e2 : st.free = j
      · omega
      · rw [if_pos e1, if_neg e2] at he; omega
    · by_cases e2 : st.free = j
      · rw [if_neg e1, if_pos e2] at he; omega
      · rw [if_neg e1, if_neg e2] at he
        rw [if_neg e1] at hne
        exact h.nd i j b1 b2 he hne
end Go.Proofs.YthoodkbdpnffdabGreatDoor

/-
  Own work: 'Support' of a link is the set of the variables that its function hangs on (a walk, and plain mathematics).
-/
namespace Go.Proofs.YthoodkbdpnffdabGreatDoor
open Go.RowKit
open Cho (U64 Tab full col Nd Red)

/-- The variables of the nodes that are marked, of the first k. -/
def supTo (ns : List Nd) (b : List Bool) : Nat → Nat
  | 0 => 0
  | k + 1 => if b.getD (k + 2) false then supTo ns b k ||| 2 ^ (ns.getD k (0, 0, 0)).1 else supTo ns b k
theorem supTo_lt (ns : List Nd) (b : List Bool) (hv : ∀ n ∈ ns, n.1 < 6) (k : Nat) (hk : k ≤ ns.length) : supTo ns b k < 256 := by
  induction k with
  | zero => simp [supTo]
  | succ k ih =>
    simp only [supTo]; split
    · have hn : ns.getD k (0, 0, 0) = ns[k] := by simp [List.getD, show k < ns.length by omega]
      have := hv ns[k] (List.getElem_mem _)
      rw [hn]
      exact Nat.or_lt_two_pow (n := 8) (ih (by omega)) (Nat.pow_lt_pow_right (by decide) (by omega))
    · exact ih (by omega)
theorem supTo_bit (ns : List Nd) (b : List Bool) (k i : Nat) (hk : k ≤ ns.length) : (supTo ns b k).testBit i = true ↔ ∃ j, ∃ hj : j < ns.length, j < k ∧ b.getD (j + 2) false = true ∧ ns[j].1 = i := by
  induction k with
  | zero => simp [supTo]
  | succ k ih =>
    have hn : ns.getD k (0, 0, 0) = ns[k] := by simp [List.getD, show k < ns.length by omega]
    simp only [supTo]
    split
    · rename_i hb
      rw [Nat.testBit_or, hn, Nat.testBit_two_pow, Bool.or_eq_true, ih (by omega)]
      constructor
      · rintro (⟨j, hj, h1, h2, h3⟩ | h)
        · exact ⟨j, hj, by omega, h2, h3⟩
        · exact ⟨k, by omega, by omega, hb, by simpa using h⟩
      · rintro ⟨j, hj, h1, h2, h3⟩
        by_cases e : j = k
        · subst e; right; simpa using h3
        · left; exact ⟨j, hj, by omega, h2, h3⟩
    · rename_i hb
      rw [ih (by omega)]
      constructor
      · rintro ⟨j, hj, h1, h2, h3⟩; exact ⟨j, hj, by omega, h2, h3⟩
      · rintro ⟨j, hj, h1, h2, h3⟩
        by_cases e : j = k
        · subst e; exact absurd h2 (by simpa using hb)
        · exact ⟨j, hj, by omega, h2, h3⟩

theorem put_comm (p i j : Nat) (a b : Bool) (h : i ≠ j) : Cho.put (Cho.put p i a) j b = Cho.put (Cho.put p j b) i a := by
  apply Nat.eq_of_testBit_eq
  intro q
  simp only [Cho.put_testBit]
  by_cases h1 : q = i <;> by_cases h2 : q = j <;> simp_all

/-- A function hangs on just the variables that its nodes ask for. -/
theorem hangs_iff {ord : List Nat} {ns : List Nd} (h : Red ord ns) (l i : Nat) (hl : l < ns.length + 2) :
    (∃ k, ∃ hk : k < ns.length, Cho.Reach ns [l] (k + 2) ∧ ns[k].1 = i) ↔ ¬ ∀ p b, Cho.ev ns l (Cho.put p i b) = Cho.ev ns l p := by
  constructor
  · rintro ⟨k, hk, hr, hi⟩ hind
    have hbase : ∀ m ∈ [l], m < ns.length + 2 ∧ ∀ p b, Cho.ev ns m (Cho.put p i b) = Cho.ev ns m p := by
      intro m hm
      obtain rfl : m = l := by simpa using hm
      exact ⟨hl, hind⟩
    have hS := hr (fun l => l < ns.length + 2 ∧ ∀ p b, Cho.ev ns l (Cho.put p i b) = Cho.ev ns l p) hbase (fun k hk hS => ?_)
    · -- the node itself
      have hw := h.wf k hk
      have hlow := h.low k hk
      have hv := h.var ns[k] (List.getElem_mem hk)
      apply h.diff k hk
      apply Cho.canon h _ _ _ (Nat.le_max_left _ _) (Nat.le_max_right _ _) (by omega) (by omega)
      intro p
      have e0 := hS.2 p false
      have e1 := hS.2 p true
      rw [Cho.ev_node h.wf _ hk, hi, Cho.put_testBit, if_pos rfl] at e0 e1
      simp only [Bool.false_eq_true, if_false, if_true] at e0 e1
      rw [← hi, Cho.ev_indep h p _ _ _ (by omega) hlow.1 hv] at e0
      rw [← hi, Cho.ev_indep h p _ _ _ (by omega) hlow.2 hv] at e1
      rw [e0, e1]
    · have hw := h.wf k hk
      have hlow := h.low k hk
      have hv := h.var ns[k] (List.getElem_mem hk)
      have hne : ns[k].1 ≠ i := by
        intro hi
        apply h.diff k hk
        apply Cho.canon h _ _ _ (Nat.le_max_left _ _) (Nat.le_max_right _ _) (by omega) (by omega)
        intro p
        have e0 := hS.2 p false
        have e1 := hS.2 p true
        rw [Cho.ev_node h.wf _ hk, hi, Cho.put_testBit, if_pos rfl] at e0 e1
        simp only [Bool.false_eq_true, if_false, if_true] at e0 e1
        rw [← hi, Cho.ev_indep h p _ _ _ (by omega) hlow.1 hv] at e0
        rw [← hi, Cho.ev_indep h p _ _ _ (by omega) hlow.2 hv] at e1
        rw [e0, e1]
      have part : ∀ (c : Bool) p b, (if c then Cho.ev ns ns[k].2.2 (Cho.put p i b) else Cho.ev ns ns[k].2.1 (Cho.put p i b)) = (if c then Cho.ev ns ns[k].2.2 p else Cho.ev ns ns[k].2.1 p) := by
        intro c p b
        have e := hS.2 (Cho.put p ns[k].1 c) b
        rw [put_comm _ _ _ _ _ hne, Cho.ev_node h.wf _ hk, Cho.ev_node h.wf _ hk, Cho.put_testBit, if_pos rfl, Cho.put_testBit, if_pos rfl] at e
        rw [Cho.ev_indep h _ _ _ ns[k].2.1 (by omega) hlow.1 hv, Cho.ev_indep h _ _ _ ns[k].2.2 (by omega) hlow.2 hv] at e
        rw [Cho.ev_indep h _ _ _ ns[k].2.1 (by omega) hlow.1 hv, Cho.ev_indep h _ _ _ ns[k].2.2 (by omega) hlow.2 hv] at e
        exact e
      exact ⟨⟨by omega, fun p b => by simpa using part false p b⟩, ⟨by omega, fun p b => by simpa using part true p b⟩⟩
  · intro hn
    apply Classical.byContradiction
    intro hno
    apply hn
    have hno' : ∀ k (hk : k < ns.length), Cho.Reach ns [l] (k + 2) → ns[k].1 ≠ i := fun k hk hr hi => hno ⟨k, hk, hr, hi⟩
    have key : ∀ m, m < ns.length + 2 → Cho.Reach ns [l] m → ∀ p b, Cho.ev ns m (Cho.put p i b) = Cho.ev ns m p := by
      intro m
      induction m using Nat.strongRecOn with
      | ind m ih =>
        intro hm hr p b
        by_cases h2 : m < 2
        · rw [Cho.ev_small _ _ _ h2, Cho.ev_small _ _ _ h2]
        · obtain ⟨k, rfl⟩ : ∃ k, m = k + 2 := ⟨m - 2, by omega⟩
          have hk : k < ns.length := by omega
          have hw := h.wf k hk
          have hne := hno' k hk hr
          have r1 : Cho.Reach ns [l] ns[k].2.1 := fun S a b => (b k hk (hr S a b)).1
          have r2 : Cho.Reach ns [l] ns[k].2.2 := fun S a b => (b k hk (hr S a b)).2
          rw [Cho.ev_node h.wf _ hk, Cho.ev_node h.wf _ hk, Cho.put_testBit, if_neg hne]
          rw [ih _ (by omega) (by omega) r1, ih _ (by omega) (by omega) r2]
    exact key l hl (fun S a _ => a l (by simp))

theorem bit_or8 (a v : Nat) (ha : a < 256) (hv : v < 6) : bits .or .u8 (a : Int) (IntKind.u8.wrap (2 ^ v)) = ((a ||| 2 ^ v : Nat) : Int) := by
  have h : (2 : Nat) ^ v < 256 := Nat.lt_of_lt_of_le (Nat.pow_lt_pow_right (by decide) hv) (by decide)
  have e : IntKind.u8.wrap (2 ^ v) = ((2 ^ v : Nat) : Int) := by
    rw [IntKind.wrap_u8', show ((2 : Int) ^ v) = ((2 ^ v : Nat) : Int) from by simp, show (256 : Int) = ((256 : Nat) : Int) from rfl, ← Int.natCast_emod, Nat.mod_eq_of_lt h]
  rw [e, u8_or_nat a (2 ^ v) ha h]

set_option maxHeartbeats 1000000 in
theorem dsupport_calls (s off B : Nat) (ns : List Nd) (nv : Value) (l : Nat) (w : World) (h1 : w.cell? ⟨s, off + 1, none⟩ = some nv) (hr : w.ownsRow B 153 3 nv ns.length (flat ns))
    (hw : Cho.Wf ns) (hv : ∀ n ∈ ns, n.1 < 6) (hl : l < ns.length + 2) (hn : ns.length ≤ 1000000) :
    Calls Tryz.prog 86 #[.pointer (some ⟨s, off, none⟩), .int .i64 l] w fun e w' => e = .returned (.int .u8 (supTo ns (Cho.reached ns [l]) ns.length : Nat)) ∧ Below w.heap.size w w' := by
  have hs := World.block_lt_of_cell? w _ h1
  simp only at hs
  obtain ⟨ao, cap, rfl, hblk, hcells⟩ := row_cell hr
  have HCELLS : Hid (∀ k (hk : k < ns.length), ∃ g, ao = some ⟨g, 0, none⟩ ∧ g < w.heap.size ∧ ns.length ≤ cap ∧ w.cell? ⟨g, k * 3, none⟩ = some (.int .i64 (ns[k].1 : Nat)) ∧ w.cell? ⟨g, k * 3 + 1, none⟩ = some (.int .i64 (ns[k].2.1 : Nat)) ∧ w.cell? ⟨g, k * 3 + 2, none⟩ = some (.int .i64 (ns[k].2.2 : Nat))) := hcells
  have HR : Hid (w.ownsRow B 153 3 (.slice ao ns.length cap) ns.length (flat ns)) := hr
  have HW : Hid (Cho.Wf ns) := hw
  have HV : Hid (∀ n ∈ ns, n.1 < 6) := hv
  clear hr hblk hcells hw hv
  go_enter Tryz.func86, Tryz.ntmps86
  go_wp2_with fail
  have hb1 : Below w.heap.size w (w.alloc (.cells #[.int .i64 l] 59)) := (Below.refl _ _).alloc (Nat.le_refl _) _
  refine (reached_calls s off B w.heap.size 0 1 ns _ [l] _ ((hb1.cell (p := ⟨s, off + 1, none⟩) hs).trans h1) (HR.out.alloc _) (fun i hi => ?_) (by simp) (by simpa using hl) HW.out hn (by simp)).mono ?_
  · obtain rfl : i = 0 := by simpa using hi
    simp
  rintro e w1 ⟨rfl, hm⟩
  have hlen1 : (w.alloc (.cells #[.int .i64 l] 59)).heap.size = w.heap.size + 1 := by simp
  have HM : Hid (Marks (w.alloc (.cells #[.int .i64 l] 59)) w1 (Cho.reached ns [l]) ns.length) := hm
  have hbw : Below w.heap.size w w1 := hb1.trans (hm.bel.mono (by rw [hlen1]; omega))
  have hsz1 : w.heap.size + 1 < w1.heap.size := by have := lt_of_block hm.at'; rw [hlen1] at this; exact this
  rw [hlen1]
  have c1 : w1.cell? ⟨s, off + 1, none⟩ = some (.slice ao ns.length cap) := (hbw.cell (p := ⟨s, off + 1, none⟩) hs).trans h1
  have HMC : Hid (∀ k, k < ns.length → w1.cell? ⟨w.heap.size + 1, 2 + k, none⟩ = some (.bool ((Cho.reached ns [l]).getD (k + 2) false))) := fun k hk => by
    have := hm.cell (2 + k) (by omega)
    rw [hlen1, Nat.add_comm 2 k] at this
    rw [Nat.add_comm 2 k]; exact this
  have HB1 : Hid (Below w.heap.size w w1) := hbw
  clear hm HM hb1 hlen1 hbw
  generalize hR : Cho.reached ns [l] = R at *
  have HRR : Hid (Cho.reached ns [l] = R) := hR
  clear hR
  go_wp2_with fail
  go_loopw [5, 18] (fun x i wr => ∃ k : Nat, k ≤ ns.length ∧ i = .int .i64 k ∧ x = .int .u8 (supTo ns R k : Nat) ∧ Below w1.heap.size w1 wr) (fun _ i _ => ns.length - (intOf i).toNat)
  case atStart => exact ⟨0, Nat.zero_le _, rfl, rfl, Below.refl _ _⟩
  case round =>
    obtain ⟨k, hk, rfl, rfl, hbel⟩ := hrel
    by_cases hkn : k < ns.length
    · obtain ⟨g, hao, hgw, hcap, g0, g1, g2⟩ := HCELLS.out k hkn
      have hgw1 : g < w1.heap.size := by omega
      have old : ∀ b j, b < w.heap.size → wr.cell? ⟨b, j, none⟩ = w.cell? ⟨b, j, none⟩ := fun b j hb => (hbel.cell (p := ⟨b, j, none⟩) (show b < w1.heap.size by omega)).trans (HB1.out.cell (p := ⟨b, j, none⟩) hb)
      have e0 := (old g (k * 3) hgw).trans g0
      have e1 := (old g (k * 3 + 1) hgw).trans g1
      have e2 := (old g (k * 3 + 2) hgw).trans g2
      have mk : wr.cell? ⟨w.heap.size + 1, 2 + k, none⟩ = some (.bool (R.getD (k + 2) false)) := (hbel.cell (p := ⟨w.heap.size + 1, 2 + k, none⟩) (show w.heap.size + 1 < w1.heap.size from hsz1)).trans (HMC.out k hkn)
      have hszr := hbel.size
      have hlt2 : w.heap.size + 1 < wr.heap.size := by omega
      have hv := HV.out ns[k] (List.getElem_mem hkn)
      have hsl := supTo_lt ns R HV.out k (by omega)
      have hdef : supTo ns R (k + 1) = if R.getD (k + 2) false then supTo ns R k ||| 2 ^ ns[k].1 else supTo ns R k := by
        have hn : ns.getD k (0, 0, 0) = ns[k] := by simp [List.getD, hkn]
        rw [← hn]; rfl
      have HU : Hid (bits .or .u8 ((supTo ns R k : Nat) : Int) (IntKind.u8.wrap (2 ^ ns[k].1)) = ((supTo ns R k ||| 2 ^ ns[k].1 : Nat) : Int)) := bit_or8 _ _ hsl hv
      have HDEF : Hid (supTo ns R (k + 1) = if R.getD (k + 2) false then supTo ns R k ||| 2 ^ ns[k].1 else supTo ns R k) := hdef
      clear hdef g0 g1 g2 old
      generalize ns[k] = q at *
      obtain ⟨qv, no, yes⟩ := q
      simp only at *
      generalize supTo ns R k = X at *
      subst hao
      clear HCELLS HR HMC
      cases hb : R.getD (k + 2) false
      · rw [hb] at mk HDEF
        have HD2 : Hid (supTo ns R (k + 1) = X) := HDEF.out
        go_wp2_with fail
        exact ⟨⟨k + 1, hkn, by go_num, by rw [HD2.out], hbel.alloc (by omega) _⟩, by simp [intOf]; omega⟩
      · rw [hb] at mk HDEF
        have HD2 : Hid (supTo ns R (k + 1) = X ||| 2 ^ qv) := HDEF.out
        go_wp2_with fail
        exact ⟨⟨k + 1, hkn, by go_num, val_int (by rw [HD2.out]; exact HU.out), hbel.alloc (by omega) _⟩, by simp [intOf]; omega⟩
    · obtain rfl : k = ns.length := by omega
      go_wp2_with fail
      go_ret
      exact ⟨ret_int (by rw [HRR.out]), HB1.out.trans (hbel.mono (by omega))⟩

/-- The set that a handle's function hangs on. -/
def St.sup (st : St) (a : Nat) : Nat := supTo st.ns (Cho.reached st.ns [st.root a]) st.ns.length
theorem sup_lt {st : St} (h : Inv st) (a : Nat) : st.sup a < 256 := supTo_lt _ _ (fun n hn => h.ord6 _ (h.red.var n hn)) _ (Nat.le_refl _)
theorem sup_bit {st : St} (h : Inv st) {a : Nat} (ha : st.live a) (i : Nat) : (st.sup a).testBit i = true ↔ ¬ ∀ p b, Cho.ev st.ns (st.root a) (Cho.put p i b) = Cho.ev st.ns (st.root a) p := by
  have hl := h.root_lt ha
  rw [← hangs_iff h.red _ _ hl]
  unfold St.sup
  rw [supTo_bit _ _ _ _ (Nat.le_refl _)]
  constructor
  · rintro ⟨j, hj, _, hb, hi⟩
    exact ⟨j, hj, (Cho.reached_iff h.red.wf _ (by simpa using hl) _ (by omega)).1 hb, hi⟩
  · rintro ⟨j, hj, hr, hi⟩
    exact ⟨j, hj, hj, (Cho.reached_iff h.red.wf _ (by simpa using hl) _ (by omega)).2 hr, hi⟩
end Go.Proofs.YthoodkbdpnffdabGreatDoor
