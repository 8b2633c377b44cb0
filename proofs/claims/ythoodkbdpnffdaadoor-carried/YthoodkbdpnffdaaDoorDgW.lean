/-
  Own work: 'take' puts other nodes in the place of a store's (a walk).
-/
import Derived.Test.YthoodkbdpnffdaaDoorStoreM
import Derived.Test.YthoodkbdpnffdaaDoorKeepA
import Derived.Laws.CopyOwn
import Derived.Test.YthoodkbdpnffdaaDoorMoveW
namespace Go.Proofs.YthoodkbdpnffdaaDoor
open Go.RowKit
open Cho (U64 Tab full col Nd Red)

theorem cells_rs (st : St) (ov nv : Value) (rs' : List Nat) (h30 : st.hs.length = 30) (r30 : st.rs.length = 30) (l30 : rs'.length = 30) :
    (cellsOf st ov nv).take 33 ++ (lv rs' ++ (cellsOf st ov nv).drop (33 + (lv rs').length)) = cellsOf { st with rs := rs' } ov nv := by
  have e1 : (cellsOf st ov nv).take 33 = .int .i64 st.n :: .int .i64 st.room :: .int .u32 st.given :: hv st.hs := by
    simp only [cellsOf, List.take_succ_cons]
    rw [List.take_append_of_le_length (by rw [hv_len]; omega), List.take_of_length_le (by rw [hv_len]; omega)]
  have e2 : (cellsOf st ov nv).drop (33 + (lv rs').length) = [ov, nv] := by
    rw [lv_len, l30]
    simp only [cellsOf, List.drop_succ_cons]
    rw [List.drop_append, List.drop_append, hv_len, lv_len, h30, r30]
    simp [List.drop_eq_nil_of_le, hv_len, h30]
    rw [lv_len]; omega
  rw [e1, e2]
  simp [cellsOf]
theorem infoLinkS : (Tryd.prog.info? 81).map (·.size) = some 1 := by kernel_rfl
theorem lv_one (l : List Nat) : ∀ u ∈ lv l, u.oneCell' = true := by
  intro u hu
  simp only [lv, List.mem_map] at hu
  obtain ⟨n, _, rfl⟩ := hu
  rfl

set_option maxRecDepth 100000 in
set_option maxHeartbeats 1000000 in
theorem take_calls (s gl capl : Nat) (st : St) (ov nv : Value) (ao ak : Option Addr) (n capo k capk : Nat) (rs' : List Nat) (w : World)
    (hb : w.heap[s]? = some (.cells (cellsOf st ov nv).toArray 93 (0, 0))) (h30 : st.hs.length = 30) (r30 : st.rs.length = 30) (l30 : rs'.length = 30)
    (hsrc : ∀ j u, (lv rs')[j]? = some u → w.cell? ((⟨gl, 0, none⟩ : Addr).add j) = some u) (hgl : gl ≠ s) :
    Calls Tryd.prog 57 #[.pointer (some ⟨s, 0, none⟩), .agg #[.slice ao n capo, .slice ak k capk], .slice (some ⟨gl, 0, none⟩) 30 capl] w fun e w' => e = .returned (.tuple #[]) ∧
      w'.heap[s]? = some (.cells (cellsOf { st with rs := rs' } (.slice ao n capo) (.slice ak k capk)).toArray 93 (0, 0)) ∧ w.grownBy w' (some s) := by
  have hsw := lt_of_block hb
  have hgw : gl < w.heap.size := by
    have := hsrc 0 _ (lv_get rs' 0 (by omega))
    have := World.block_lt_of_cell? w _ this
    simpa [Addr.add] using this
  have hB1 : ((w.setCell ⟨s, 63, none⟩ (.slice ao n capo)).setCell ⟨s, 64, none⟩ (.slice ak k capk)).heap[s]? = some (.cells (cellsOf st (.slice ao n capo) (.slice ak k capk)).toArray 93 (0, 0)) := by
    rw [block_set (block_set hb), set_d h30 r30]
  have hB2 : (((w.setCell ⟨s, 63, none⟩ (.slice ao n capo)).setCell ⟨s, 64, none⟩ (.slice ak k capk)).alloc (.cells #[.slice ao n capo, .slice ak k capk] 91)).heap[s]? = some (.cells (cellsOf st (.slice ao n capo) (.slice ak k capk)).toArray 93 (0, 0)) := (Below.heap_alloc _ _ _ (lt_of_block hB1)).trans hB1
  have HSRC : ∀ j u, (lv rs')[j]? = some u → (((w.setCell ⟨s, 63, none⟩ (.slice ao n capo)).setCell ⟨s, 64, none⟩ (.slice ak k capk)).alloc (.cells #[.slice ao n capo, .slice ak k capk] 91)).cell? ((⟨gl, 0, none⟩ : Addr).add j) = some u := by
    intro j u hu
    have h1 := hsrc j u hu
    rw [Addr.add_mid] at h1 ⊢
    exact with_al (set_far hgl (set_far hgl h1))
  have HFT : 33 + (lv rs').length ≤ (cellsOf st (.slice ao n capo) (.slice ak k capk)).toArray.size := by
    rw [lv_len, l30]
    simp only [cellsOf, List.size_toArray, List.length_cons, List.length_append, hv_len, lv_len, h30, r30, List.length_nil]
    omega
  have hrun := run_copy_row (P := Tryd.prog) _ 101 101 3 81 s 33 30 30 ⟨gl, 0, none⟩ 30 capl _ 93 (lv rs') Tryd.underlying101 infoLinkS hB2 (by rw [lv_len, l30]; rfl) HSRC HFT (lv_one rs')
  rw [List.append_assoc, List.toList_toArray, cells_rs st _ _ rs' h30 r30 l30, lv_len, l30] at hrun
  have hne : ¬ s = w.heap.size := by omega
  have r63 : w.cell? ⟨s, 63, none⟩ = some ov := (cell_of_block hb 63).trans (by rw [List.getElem?_toArray, at_63 h30 r30])
  have r64 : w.cell? ⟨s, 64, none⟩ = some nv := (cell_of_block hb 64).trans (by rw [List.getElem?_toArray, at_64 h30 r30])
  have rz : ∀ j, w.frozen? ⟨s, j, none⟩ = false := fun j => frozen_of_block hb j
  have FIN : Hid (((((w.setCell ⟨s, 63, none⟩ (.slice ao n capo)).setCell ⟨s, 64, none⟩ (.slice ak k capk)).alloc (.cells #[.slice ao n capo, .slice ak k capk] 91)).setRow s (cellsOf { st with rs := rs' } (.slice ao n capo) (.slice ak k capk)).toArray).heap[s]? = some (.cells (cellsOf { st with rs := rs' } (.slice ao n capo) (.slice ak k capk)).toArray 93 (0, 0)) ∧
      w.grownBy ((((w.setCell ⟨s, 63, none⟩ (.slice ao n capo)).setCell ⟨s, 64, none⟩ (.slice ak k capk)).alloc (.cells #[.slice ao n capo, .slice ak k capk] 91)).setRow s (cellsOf { st with rs := rs' } (.slice ao n capo) (.slice ak k capk)).toArray) (some s)) := by
    refine ⟨setRow_heap _ s _ _ _ _ hB2, rfl, rfl, rfl, by simp [World.setRow, World.setCell], fun b hb' hbs => ?_⟩
    have hbs' : b ≠ s := by intro e; exact hbs (by rw [e])
    rw [setRow_other _ _ _ _ hbs', Below.heap_alloc _ _ _ (by simpa [World.setCell] using hb'), block_set_other hbs', block_set_other hbs']
  generalize cellsOf { st with rs := rs' } (.slice ao n capo) (.slice ak k capk) = C at *
  clear hb hB1 hB2 HSRC HFT hsrc
  go_enter Tryd.func57, Tryd.ntmps57
  go_wp2_with fail
  go_end0
  exact ⟨rfl, FIN.out⟩
end Go.Proofs.YthoodkbdpnffdaaDoor

/-
  Own work: a diagram in memory and its links; what the calls that answer a diagram leave (contracts).
-/
namespace Go.Proofs.YthoodkbdpnffdaaDoor
open Go.RowKit
open Cho (U64 Tab full col Nd Red Dg DgOk)

theorem OrdV.kept {w w' : World} {g n cap : Nat} {ord : List Nat} (h : OrdV w g n cap ord) (hk : w'.heap[g]? = w.heap[g]?) : OrdV w' g n cap ord := by
  obtain ⟨h1, h2, h3, cur, h4⟩ := h
  exact ⟨h1, h2, fun i hi => (World.cell?_of_block (a := ⟨g, i, none⟩) hk).trans (h3 i hi), cur, hk.trans h4⟩
theorem OrdV.lt {w : World} {g n cap : Nat} {ord : List Nat} (h : OrdV w g n cap ord) : g < w.heap.size := by
  obtain ⟨_, _, _, cur, h4⟩ := h; exact lt_of_block h4
theorem row_kind {w : World} {B : Nat} {e : TypeId} {sz : Nat} {v : Value} {n : Nat} {xs : List Value} (h : w.ownsRow B e sz v n xs) {g : Nat} (hg : v.ownBlock = some g) : ∃ c, w.heap[g]? = some (.cells c e (0, 0)) := by
  obtain ⟨_, ⟨rfl, _⟩ | ⟨g', cap, cu, rfl, _, hg2, _⟩⟩ := h
  · simp [Value.ownBlock] at hg
  · obtain rfl : g' = g := by simpa [Value.ownBlock] using hg
    exact ⟨cu, hg2⟩
/-- It stays, where blocks of its kinds do. -/
theorem DgV.kept {w w' : World} {g n cap : Nat} {kv lw : Value} {d : Dg} (h : DgV w g n cap kv lw d) (hk : ∀ (k : Nat) (c : Array Value) (T : TypeId), w.heap[k]? = some (.cells c T (0, 0)) → T = 3 ∨ T = 122 ∨ T = 81 → w'.heap[k]? = w.heap[k]?) : DgV w' g n cap kv lw d := by
  refine ⟨?_, owns_kept h.row fun q hq => ?_, owns_kept h.lrow fun q hq => ?_⟩
  · obtain ⟨_, _, _, cur, hcur⟩ := h.ord
    exact h.ord.kept (hk _ _ _ hcur (.inl rfl))
  · obtain ⟨c, hc⟩ := row_kind h.row hq
    exact hk _ _ _ hc (.inr (.inl rfl))
  · obtain ⟨c, hc⟩ := row_kind h.lrow hq
    exact hk _ _ _ hc (.inr (.inr rfl))
theorem DgV.below {w w' : World} {g n cap : Nat} {kv lw : Value} {d : Dg} (h : DgV w g n cap kv lw d) (hb : Below w.heap.size w w') : DgV w' g n cap kv lw d := h.kept fun k _ _ hk _ => hb.block k (lt_of_block hk)
/-- The diagram whose fields lie in block s from off on, with the links that lie in block g from o on. -/
structure DgAt (n : Nat) (w : World) (s off g o : Nat) (d : Dg) : Prop where
  ex : ∃ go capo nv, w.cell? ⟨s, off, none⟩ = some (.slice (some ⟨go, 0, none⟩) d.ord.length capo) ∧ w.cell? ⟨s, off + 1, none⟩ = some nv ∧ OrdV w go d.ord.length capo d.ord ∧ w.ownsRow 0 122 3 nv d.ns.length (flat d.ns)
  links : ∀ i (hi : i < d.ls.length), w.cell? ⟨g, o + i, none⟩ = some (.int .i64 (d.ls[i] : Nat))
  cols : Cols w
  ok : DgOk n d
  few : d.ns.length ≤ 4000
  l30 : d.ls.length = 30
theorem DgAt.below {n : Nat} {w w' : World} {s off g o : Nat} {d : Dg} (h : DgAt n w s off g o d) (hb : Below w.heap.size w w') : DgAt n w' s off g o d := by
  obtain ⟨go, capo, nv, h1, h2, h3, h4⟩ := h.ex
  have kc : ∀ A v, w.cell? A = some v → w'.cell? A = some v := fun A v hv => (hb.cell (World.block_lt_of_cell? w _ hv)).trans hv
  exact ⟨⟨go, capo, nv, kc _ _ h1, kc _ _ h2, h3.kept (hb.block _ h3.lt), owns_kept h4 fun q hq => hb.block q (h4.lt q hq).2⟩, fun i hi => kc _ _ (h.links i hi), h.cols.below hb (cols_pos h.cols), h.ok, h.few, h.l30⟩
theorem DgAt.glt {n : Nat} {w : World} {s off g o : Nat} {d : Dg} (h : DgAt n w s off g o d) : g < w.heap.size := World.block_lt_of_cell? w _ (h.links 0 (by rw [h.l30]; omega))
theorem DgAt.slt {n : Nat} {w : World} {s off g o : Nat} {d : Dg} (h : DgAt n w s off g o d) : s < w.heap.size := by
  obtain ⟨go, capo, nv, h1, _⟩ := h.ex; exact World.block_lt_of_cell? w _ h1
/-- What a call answers that answers a diagram. -/
def Ans (w : World) (d : Dg) (e : Ending) (w' : World) : Prop := ∃ g cap ak ck al cl, e = .returned (.tuple #[.agg #[.slice (some ⟨g, 0, none⟩) d.ord.length cap, .slice ak d.ns.length ck], .slice (some ⟨al, 0, none⟩) d.ls.length cl]) ∧ DgV w' g d.ord.length cap (.slice ak d.ns.length ck) (.slice (some ⟨al, 0, none⟩) d.ls.length cl) d ∧ Below w.heap.size w w'

theorem keepD {n s off g o capl : Nat} {w : World} {d : Dg} (h : DgAt n w s off g o d) :
    Calls Tryd.prog 56 #[.pointer (some ⟨s, off, none⟩), .slice (some ⟨g, o, none⟩) d.ls.length capl] w (Ans w d.keep) := by
  obtain ⟨go, capo, nv, h1, h2, h3, h4⟩ := h.ex
  have hfew := h.few
  have hl30 := h.l30
  refine (keep_calls s off 0 go capo g o capl d.ord d.ns nv d.ls w h1 h2 h4 h.links h.glt h.ok.ls h.ok.red.wf (by omega) (by omega)).mono ?_
  rintro e w' ⟨kv, lw, rfl, hr, hl, hb⟩
  obtain ⟨ak, ck, rfl⟩ := owns_slice hr
  obtain ⟨al, cl, rfl, _, _⟩ := owns_form hl (by omega)
  have el : d.keep.ls.length = d.ls.length := by simp [Dg.keep]
  refine ⟨go, capo, ak, ck, al, cl, ?_, ⟨h3.kept (hb.block _ h3.lt), ?_, ?_⟩, hb⟩
  · rw [el]; rfl
  · exact owns_low hr (Nat.zero_le _)
  · rw [el]; exact owns_low hl (Nat.zero_le _)
theorem moveD {n s off g o capl f t : Nat} {w : World} {d : Dg} (h : DgAt n w s off g o d) (hf : f < n) (ht : t < n) :
    Calls Tryd.prog 65 #[.pointer (some ⟨s, off, none⟩), .int .i64 f, .int .i64 t, .slice (some ⟨g, o, none⟩) d.ls.length capl] w (Ans w (d.move f t)) := by
  obtain ⟨go, capo, nv, h1, h2, h3, h4⟩ := h.ex
  have hl30 := h.l30
  have hn6 : d.ord.length ≤ 6 := by rw [h.ok.o.len]; exact h.ok.o.n6
  have hv6 : ∀ x ∈ d.ns, x.1 < 6 := fun x hx => h.ok.o.v6 _ (h.ok.red.var x hx)
  refine (move_calls s off 0 go capo g o capl f t d.ord d.ns nv d.ls w h1 h2 h4 h3.2.2.1 h.cols h.links h.ok.ls h.ok.red.wf hv6 h.few (by omega) hn6 h.ok.o.v6 (by rw [h.ok.o.len]; exact hf) (by rw [h.ok.o.len]; exact ht)).mono ?_
  rintro e w' ⟨g', cap', kv, lw, rfl, hd, hb⟩
  have el : (d.move f t).ls.length = d.ls.length := (Cho.move_same h.ok hf ht).len
  have eo : (d.move f t).ord.length = d.ord.length := Cho.mv_len d.ord f t
  obtain ⟨ak, ck, rfl⟩ := owns_slice hd.row
  obtain ⟨al, cl, rfl, _, _⟩ := owns_form hd.lrow (by show 0 < (d.move f t).ls.length; omega)
  refine ⟨g', cap', ak, ck, al, cl, ?_, ?_, hb⟩
  · rw [eo]
  · rw [eo]; exact hd

/-- Behind a statement that keeps such an answer in a new variable, whatever its order. -/
structure Kq (W V : World) (q g n cap : Nat) (kv lw : Value) (d : Dg) : Prop where
  dia : V.heap[q]? = some (.cells #[.slice (some ⟨g, 0, none⟩) n cap, kv] 91 (0, 0))
  lo : W.heap.size ≤ q
  dg : DgV V g n cap kv lw d
  bel : Below W.heap.size W V
theorem kq_a {W w' : World} {g n cap : Nat} {kv lw : Value} {d : Dg} (hd : DgV w' g n cap kv lw d) (hb : Below W.drew.heap.size W.drew w') :
    Kq W (w'.alloc (.cells #[.slice (some ⟨g, 0, none⟩) n cap, kv] 91)) w'.heap.size g n cap kv lw d := by
  have hs := hb.size
  exact ⟨heap_res _ _, hs, hd.below ((Below.refl _ _).alloc (Nat.le_refl _) _), ((Below.refl _ W).drew.trans hb).alloc hs _⟩
theorem kq_at {W w' : World} (hb : Below (W.alloc (.cells #[.slice none 0 0, .slice none 0 0] 91)).drew.heap.size (W.alloc (.cells #[.slice none 0 0, .slice none 0 0] 91)).drew w') : w'.heap[W.heap.size]? = some (.cells #[.slice none 0 0, .slice none 0 0] 91 (0, 0)) :=
  (hb.block _ (by simp)).trans (heap_res _ _)
theorem kq_b {W w' : World} {g n cap : Nat} {kv lw : Value} {d : Dg} (hd : DgV w' g n cap kv lw d) (hb : Below (W.alloc (.cells #[.slice none 0 0, .slice none 0 0] 91)).drew.heap.size (W.alloc (.cells #[.slice none 0 0, .slice none 0 0] 91)).drew w') :
    Kq W ((w'.setCell ⟨W.heap.size, 0, none⟩ (.slice (some ⟨g, 0, none⟩) n cap)).setCell ⟨W.heap.size, 1, none⟩ kv) W.heap.size g n cap kv lw d := by
  have hq := kq_at hb
  have e : (W.alloc (.cells #[.slice none 0 0, .slice none 0 0] 91)).drew.heap.size = W.heap.size + 1 := by simp
  rw [e] at hb
  refine ⟨two_set hq, Nat.le_refl _, hd.kept fun k c T hk hT => ?_, ?_⟩
  · have hne : k ≠ W.heap.size := by
      rintro rfl
      rw [hq] at hk
      simp at hk
      rcases hT with rfl | rfl | rfl <;> simp at hk
    rw [block_set_other hne, block_set_other hne]
  · exact ((((Below.refl _ W).alloc (Nat.le_refl _) _).drew.trans (hb.mono (by omega))).setCell (Nat.le_refl _) _).setCell (Nat.le_refl _) _
end Go.Proofs.YthoodkbdpnffdaaDoor
