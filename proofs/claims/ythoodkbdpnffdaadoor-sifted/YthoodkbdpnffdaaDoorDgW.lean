/-
  Own work: a diagram in memory and its links; what the calls that answer a diagram leave (contracts).
-/
import Derived.Test.YthoodkbdpnffdaaDoorMoveW
import Derived.Test.YthoodkbdpnffdaaDoorKeepA
import Derived.Test.YthoodkbdpnffdaaDoorTakeW
namespace Go.Proofs.YthoodkbdpnffdaaDoor
open Go.RowKit
open Cho (U64 Tab full col Nd Red Dg DgOk)

theorem OrdV.kept {w w' : World} {g n cap : Nat} {ord : List Nat} (h : OrdV w g n cap ord) (hk : w'.heap[g]? = w.heap[g]?) : OrdV w' g n cap ord := by
  obtain ⟨h1, h2, h3, cur, h4⟩ := h
  exact ⟨h1, h2, fun i hi => (World.cell?_of_block (a := ⟨g, i, none⟩) hk).trans (h3 i hi), cur, hk.trans h4⟩
theorem OrdV.lt {w : World} {g n cap : Nat} {ord : List Nat} (h : OrdV w g n cap ord) : g < w.heap.size := by
  obtain ⟨_, _, _, cur, h4⟩ := h; exact lt_of_block h4
theorem row_kind {w : World} {B : Nat} {e : TypeId} {sz : Nat} {v : Value} {n : Nat} {xs : List Value} (h : w.ownsRow B e sz v n xs) {g : Nat} (hg : v.ownBlock = some g) : ∃ c, w.heap[g]? = some (.cells c e (0, 0)) := by
  obtain ⟨_, ⟨rfl, _⟩ | ⟨g', cap, cu, rfl, _, hg2, _⟩⟩ := h
  · simp [Value.ownBlock] at hg
  · obtain rfl : g' = g := by simpa [Value.ownBlock] using hg
    exact ⟨cu, hg2⟩
/-- It stays, where blocks of its kinds do. -/
theorem DgV.kept {w w' : World} {g n cap : Nat} {kv lw : Value} {d : Dg} (h : DgV w g n cap kv lw d) (hk : ∀ (k : Nat) (c : Array Value) (T : TypeId), w.heap[k]? = some (.cells c T (0, 0)) → T = 3 ∨ T = 122 ∨ T = 81 → w'.heap[k]? = w.heap[k]?) : DgV w' g n cap kv lw d := by
  refine ⟨?_, owns_kept h.row fun q hq => ?_, owns_kept h.lrow fun q hq => ?_⟩
  · obtain ⟨_, _, _, cur, hcur⟩ := h.ord
    exact h.ord.kept (hk _ _ _ hcur (.inl rfl))
  · obtain ⟨c, hc⟩ := row_kind h.row hq
    exact hk _ _ _ hc (.inr (.inl rfl))
  · obtain ⟨c, hc⟩ := row_kind h.lrow hq
    exact hk _ _ _ hc (.inr (.inr rfl))
theorem DgV.below {w w' : World} {g n cap : Nat} {kv lw : Value} {d : Dg} (h : DgV w g n cap kv lw d) (hb : Below w.heap.size w w') : DgV w' g n cap kv lw d := h.kept fun k _ _ hk _ => hb.block k (lt_of_block hk)
/-- The diagram whose fields lie in block s from off on, with the links that lie in block g from o on. -/
structure DgAt (n : Nat) (w : World) (s off g o : Nat) (d : Dg) : Prop where
  ex : ∃ go capo nv, w.cell? ⟨s, off, none⟩ = some (.slice (some ⟨go, 0, none⟩) d.ord.length capo) ∧ w.cell? ⟨s, off + 1, none⟩ = some nv ∧ OrdV w go d.ord.length capo d.ord ∧ w.ownsRow 0 122 3 nv d.ns.length (flat d.ns)
  links : ∀ i (hi : i < d.ls.length), w.cell? ⟨g, o + i, none⟩ = some (.int .i64 (d.ls[i] : Nat))
  cols : Cols w
  ok : DgOk n d
  few : d.ns.length ≤ 4000
  l30 : d.ls.length = 30
theorem DgAt.below {n : Nat} {w w' : World} {s off g o : Nat} {d : Dg} (h : DgAt n w s off g o d) (hb : Below w.heap.size w w') : DgAt n w' s off g o d := by
  obtain ⟨go, capo, nv, h1, h2, h3, h4⟩ := h.ex
  have kc : ∀ A v, w.cell? A = some v → w'.cell? A = some v := fun A v hv => (hb.cell (World.block_lt_of_cell? w _ hv)).trans hv
  exact ⟨⟨go, capo, nv, kc _ _ h1, kc _ _ h2, h3.kept (hb.block _ h3.lt), owns_kept h4 fun q hq => hb.block q (h4.lt q hq).2⟩, fun i hi => kc _ _ (h.links i hi), h.cols.below hb (cols_pos h.cols), h.ok, h.few, h.l30⟩
theorem DgAt.glt {n : Nat} {w : World} {s off g o : Nat} {d : Dg} (h : DgAt n w s off g o d) : g < w.heap.size := World.block_lt_of_cell? w _ (h.links 0 (by rw [h.l30]; omega))
theorem DgAt.slt {n : Nat} {w : World} {s off g o : Nat} {d : Dg} (h : DgAt n w s off g o d) : s < w.heap.size := by
  obtain ⟨go, capo, nv, h1, _⟩ := h.ex; exact World.block_lt_of_cell? w _ h1
/-- What a call answers that answers a diagram. -/
def Ans (w : World) (d : Dg) (e : Ending) (w' : World) : Prop := ∃ g cap ak ck al cl, e = .returned (.tuple #[.agg #[.slice (some ⟨g, 0, none⟩) d.ord.length cap, .slice ak d.ns.length ck], .slice (some ⟨al, 0, none⟩) d.ls.length cl]) ∧ DgV w' g d.ord.length cap (.slice ak d.ns.length ck) (.slice (some ⟨al, 0, none⟩) d.ls.length cl) d ∧ Below w.heap.size w w'

theorem keepD {n s off g o capl : Nat} {w : World} {d : Dg} (h : DgAt n w s off g o d) :
    Calls Tryd.prog 56 #[.pointer (some ⟨s, off, none⟩), .slice (some ⟨g, o, none⟩) d.ls.length capl] w (Ans w d.keep) := by
  obtain ⟨go, capo, nv, h1, h2, h3, h4⟩ := h.ex
  have hfew := h.few
  have hl30 := h.l30
  refine (keep_calls s off 0 go capo g o capl d.ord d.ns nv d.ls w h1 h2 h4 h.links h.glt h.ok.ls h.ok.red.wf (by omega) (by omega)).mono ?_
  rintro e w' ⟨kv, lw, rfl, hr, hl, hb⟩
  obtain ⟨ak, ck, rfl⟩ := owns_slice hr
  obtain ⟨al, cl, rfl, _, _⟩ := owns_form hl (by omega)
  have el : d.keep.ls.length = d.ls.length := by simp [Dg.keep]
  refine ⟨go, capo, ak, ck, al, cl, ?_, ⟨h3.kept (hb.block _ h3.lt), ?_, ?_⟩, hb⟩
  · rw [el]; rfl
  · exact owns_low hr (Nat.zero_le _)
  · rw [el]; exact owns_low hl (Nat.zero_le _)
theorem moveD {n s off g o capl f t : Nat} {w : World} {d : Dg} (h : DgAt n w s off g o d) (hf : f < n) (ht : t < n) :
    Calls Tryd.prog 65 #[.pointer (some ⟨s, off, none⟩), .int .i64 f, .int .i64 t, .slice (some ⟨g, o, none⟩) d.ls.length capl] w (Ans w (d.move f t)) := by
  obtain ⟨go, capo, nv, h1, h2, h3, h4⟩ := h.ex
  have hl30 := h.l30
  have hn6 : d.ord.length ≤ 6 := by rw [h.ok.o.len]; exact h.ok.o.n6
  have hv6 : ∀ x ∈ d.ns, x.1 < 6 := fun x hx => h.ok.o.v6 _ (h.ok.red.var x hx)
  refine (move_calls s off 0 go capo g o capl f t d.ord d.ns nv d.ls w h1 h2 h4 h3.2.2.1 h.cols h.links h.ok.ls h.ok.red.wf hv6 h.few (by omega) hn6 h.ok.o.v6 (by rw [h.ok.o.len]; exact hf) (by rw [h.ok.o.len]; exact ht)).mono ?_
  rintro e w' ⟨g', cap', kv, lw, rfl, hd, hb⟩
  have el : (d.move f t).ls.length = d.ls.length := (Cho.move_same h.ok hf ht).len
  have eo : (d.move f t).ord.length = d.ord.length := Cho.mv_len d.ord f t
  obtain ⟨ak, ck, rfl⟩ := owns_slice hd.row
  obtain ⟨al, cl, rfl, _, _⟩ := owns_form hd.lrow (by show 0 < (d.move f t).ls.length; omega)
  refine ⟨g', cap', ak, ck, al, cl, ?_, ?_, hb⟩
  · rw [eo]
  · rw [eo]; exact hd

/-- Behind a statement that keeps such an answer in a new variable, whatever its order. -/
structure Kq (W V : World) (q g n cap : Nat) (kv lw : Value) (d : Dg) : Prop where
  dia : V.heap[q]? = some (.cells #[.slice (some ⟨g, 0, none⟩) n cap, kv] 91 (0, 0))
  lo : W.heap.size ≤ q
  dg : DgV V g n cap kv lw d
  bel : Below W.heap.size W V
theorem kq_a {W w' : World} {g n cap : Nat} {kv lw : Value} {d : Dg} (hd : DgV w' g n cap kv lw d) (hb : Below W.drew.heap.size W.drew w') :
    Kq W (w'.alloc (.cells #[.slice (some ⟨g, 0, none⟩) n cap, kv] 91)) w'.heap.size g n cap kv lw d := by
  have hs := hb.size
  exact ⟨heap_res _ _, hs, hd.below ((Below.refl _ _).alloc (Nat.le_refl _) _), ((Below.refl _ W).drew.trans hb).alloc hs _⟩
theorem kq_at {W w' : World} (hb : Below (W.alloc (.cells #[.slice none 0 0, .slice none 0 0] 91)).drew.heap.size (W.alloc (.cells #[.slice none 0 0, .slice none 0 0] 91)).drew w') : w'.heap[W.heap.size]? = some (.cells #[.slice none 0 0, .slice none 0 0] 91 (0, 0)) :=
  (hb.block _ (by simp)).trans (heap_res _ _)
theorem kq_b {W w' : World} {g n cap : Nat} {kv lw : Value} {d : Dg} (hd : DgV w' g n cap kv lw d) (hb : Below (W.alloc (.cells #[.slice none 0 0, .slice none 0 0] 91)).drew.heap.size (W.alloc (.cells #[.slice none 0 0, .slice none 0 0] 91)).drew w') :
    Kq W ((w'.setCell ⟨W.heap.size, 0, none⟩ (.slice (some ⟨g, 0, none⟩) n cap)).setCell ⟨W.heap.size, 1, none⟩ kv) W.heap.size g n cap kv lw d := by
  have hq := kq_at hb
  have e : (W.alloc (.cells #[.slice none 0 0, .slice none 0 0] 91)).drew.heap.size = W.heap.size + 1 := by simp
  rw [e] at hb
  refine ⟨two_set hq, Nat.le_refl _, hd.kept fun k c T hk hT => ?_, ?_⟩
  · have hne : k ≠ W.heap.size := by
      rintro rfl
      rw [hq] at hk
      simp at hk
      rcases hT with rfl | rfl | rfl <;> simp at hk
    rw [block_set_other hne, block_set_other hne]
  · exact ((((Below.refl _ W).alloc (Nat.le_refl _) _).drew.trans (hb.mono (by omega))).setCell (Nat.le_refl _) _).setCell (Nat.le_refl _) _
end Go.Proofs.YthoodkbdpnffdaaDoor
