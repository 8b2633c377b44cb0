/-
  Own work: stores of a few known functions: what the calls that texts need do to them (walks over contracts).
-/
import Derived.Test.YthoodkbdpnffdabDoorFewM
import Derived.Test.YthoodkbdpnffdabDoorKeepW
import Derived.Test.YthoodkbdpnffdabDoorTakeW
import Derived.Test.YthoodkbdpnffdabDoorMkW
namespace Go.Proofs.YthoodkbdpnffdabDoor
open Go.RowKit
open Cho (U64 Tab full col Nd Red Says readT readT_says textOf)

/-- Since the world w0: in block s lies the store st, of which the live functions are known. -/
structure Gv (w0 w : World) (s n : Nat) (st : St) (qs : List (Nat × Nat)) : Prop where
  lo : w0.heap.size ≤ s
  bel : Below w0.heap.size w0 w
  has : Has w s st
  gw : Gw n st qs
section
variable {w0 w w' : World} {s n : Nat} {st st' : St} {qs qs' : List (Nat × Nat)}
theorem Gv.blk (h : Gv w0 w s n st qs) : ∃ cur, w.heap[s]? = some (.cells cur 53 (0, 0)) := by
  obtain ⟨_, _, _, _, hb, _⟩ := h.has.lies.ex; exact ⟨_, hb⟩
theorem Gv.size (h : Gv w0 w s n st qs) : w0.heap.size ≤ w.heap.size := h.bel.size
theorem Gv.below (h : Gv w0 w s n st qs) (hb : Below w.heap.size w w') : Gv w0 w' s n st qs := ⟨h.lo, h.bel.trans (hb.mono h.size), h.has.below hb, h.gw⟩
theorem Gv.grown (h : Gv w0 w s n st qs) (hg : w.grownBy w' (some s)) : Below w0.heap.size w0 w' :=
  h.bel.grown hg h.size (fun k hk => by simp at hk; have := h.lo; omega)
theorem gv_step (h : Gv w0 w s n st qs) (h' : Has w' s st') (f' : Gw n st' qs') (hg : w.grownBy w' (some s)) : Gv w0 w' s n st' qs' := ⟨h.lo, h.grown hg, h', f'⟩
/-- Beside a call on another store. -/
theorem Gv.beside {t m : Nat} {su : St} {rs : List (Nat × Nat)} (h : Gv w0 w s n st qs) (h2 : Gv w0 w t m su rs) (hne : s ≠ t) (hpos : 0 < w0.heap.size) (hg : w.grownBy w' (some t)) : Gv w0 w' s n st qs := by
  have hlo := h2.lo
  exact ⟨h.lo, h2.grown hg, ⟨h.has.lies.kept hg (by omega) hne h2.blk, h.has.inv, h.has.few⟩, h.gw⟩
theorem Gv.tab {a f : Nat} (h : Gv w0 w s n st qs) (ha : (a, f) ∈ qs) : st.live a ∧ st.tab a = f ∧ Tab n f := by
  have e := h.gw.tab (a, f) ha
  simp only at e
  refine ⟨(h.gw.live a).2 (List.mem_map_of_mem ha), e, ?_⟩
  rw [← e, ← h.gw.n']; exact tab_tab st a
theorem gv_export {a f : Nat} (h : Gv w0 w s n st qs) (ha : (a, f) ∈ qs) :
    Calls Tryd.prog 10 #[.pointer (some ⟨s, 0, none⟩), .int .u32 a] w fun e w' => e = .returned (.tuple #[txt (textOf n f), .int .i64 0]) ∧ Below w.heap.size w w' := by
  obtain ⟨hl, e, _⟩ := h.tab ha
  have := export_live s a st w h.has hl
  rw [e, h.gw.n'] at this
  exact this
theorem gv_import {f : Nat} {bs : List UInt8} (h : Gv w0 w s n st qs) (hl : bs.length ≤ 9223372036854775807) (hr : readT n bs = some f) (hq : qs.length ≤ 10) (hg : st.given ≤ 1000) :
    Calls Tryd.prog 6 #[.pointer (some ⟨s, 0, none⟩), txt bs] w fun e w' => e = .returned (.tuple #[.int .u32 (st.given + 1 : Nat), .int .i64 0]) ∧ Gv w0 w' s n (st.added f) (qs ++ [(st.given + 1, f)]) ∧ w.grownBy w' (some s) := by
  have hn := h.gw.n'
  have ht : Tab n f := (readT_says hr).1.tab
  refine (import_yes s f bs st w (fun x y w' => x = .int .u32 (st.given + 1 : Nat) ∧ y = .int .i64 0 ∧ Gv w0 w' s n (st.added f) (qs ++ [(st.given + 1, f)]) ∧ w.grownBy w' (some s)) h.has hl (by rw [hn]; exact hr) (fun W hW => ?_)).mono ?_
  · refine (add_ok s f st W (h.has.below hW) (h.gw.free (by omega)) (by rw [hn]; exact ht) (h.gw.fits hq ht) (by omega)).mono ?_
    rintro e w' ⟨rfl, h', hg'⟩
    exact ⟨_, _, rfl, rfl, rfl, gv_step (h.below hW) h' (h.gw.added hq ht) hg', grown_trans (grown_of_below hW) hg'⟩
  · rintro e w' ⟨x, y, rfl, rfl, rfl, h1, h2⟩
    exact ⟨rfl, h1, h2⟩
theorem gv_refuse {bs : List UInt8} (h : Gv w0 w s n st qs) (hl : bs.length ≤ 9223372036854775807) (hr : readT n bs = none) (hq : qs.length ≤ 10) :
    Calls Tryd.prog 6 #[.pointer (some ⟨s, 0, none⟩), txt bs] w fun e w' => e = .returned (.tuple #[.int .u32 0, .int .i64 6]) ∧ Below w.heap.size w w' := by
  have := import_no s bs st w h.has hl (by rw [h.gw.n']; exact hr)
  rw [if_pos (h.gw.free (by omega))] at this
  exact this
theorem gv_same {a b f g : Nat} (h : Gv w0 w s n st qs) (ha : (a, f) ∈ qs) (hb : (b, g) ∈ qs) :
    Calls Tryd.prog 8 #[.pointer (some ⟨s, 0, none⟩), .int .u32 a, .int .u32 b] w fun e w' => e = .returned (.tuple #[.bool (decide (f = g)), .int .i64 0]) ∧ w' = w := by
  obtain ⟨la, ea, _⟩ := h.tab ha
  obtain ⟨lb, eb, _⟩ := h.tab hb
  have := same_ok s a b st w h.has la lb
  rw [ea, eb] at this
  exact this
theorem gv_table {a f : Nat} (h : Gv w0 w s n st qs) (ha : (a, f) ∈ qs) :
    Calls Tryd.prog 21 #[.pointer (some ⟨s, 0, none⟩), .int .u32 a] w fun e w' => e = .returned (.tuple #[.int .u64 (f : Nat), .int .i64 0]) ∧ Below w.heap.size w w' := by
  obtain ⟨la, ea, _⟩ := h.tab ha
  have := table_ok s a st w h.has la
  rw [ea] at this
  exact this
theorem gv_var {i : Nat} (h : Gv w0 w s n st qs) (hi : i < n) (hq : qs.length ≤ 10) (hg : st.given ≤ 1000) :
    Calls Tryd.prog 7 #[.pointer (some ⟨s, 0, none⟩), .int .i64 i] w fun e w' => e = .returned (.tuple #[.int .u32 (st.given + 1 : Nat), .int .i64 0]) ∧ Gv w0 w' s n (st.added (col i &&& full n)) (qs ++ [(st.given + 1, col i &&& full n)]) ∧ w.grownBy w' (some s) := by
  have hn := h.gw.n'
  have h6 := h.gw.inv.n6
  have ht : Tab n (col i &&& full n) := by rw [← Cho.bld_var (by omega) hi]; exact Cho.bld_tab _ _
  have := var_ok s i st w h.has (by omega) (h.gw.free (by omega)) (by rw [hn]; exact h.gw.fits hq ht) (by omega)
  rw [hn] at this
  refine this.mono ?_
  rintro e w' ⟨rfl, h', hg'⟩
  exact ⟨rfl, gv_step h h' (h.gw.added hq ht) hg', hg'⟩
end
theorem gv_store {w0 w : World} (n : Nat) (hb : Below w0.heap.size w0 w) (h1 : 1 ≤ n) (h6 : n ≤ 6) (hc : Cols w) :
    Calls Tryd.prog 5 #[.int .i64 n] w fun e w' => ∃ s, e = .returned (.tuple #[.pointer (some ⟨s, 0, none⟩), .bool true]) ∧ Gv w0 w' s n (St.empty n 4000) [] ∧ w.heap.size ≤ s ∧ Below w.heap.size w w' := by
  refine (store_calls n w h1 h6 hc).mono ?_
  rintro e w' ⟨s, rfl, h, hs, hb'⟩
  have := hb.size
  exact ⟨s, rfl, ⟨by omega, hb.trans (hb'.mono this), h, (fw_empty n h1 h6).toGw⟩, hs, hb'⟩
/-- The text of a function says it, and so it is read, among more variables too. -/
theorem read_text {n t : Nat} (h6 : n ≤ 6) (ht : Tab n t) : readT n (textOf n t) = some t :=
  Cho.readT_some h6 (by have := Cho.text_short h6 ht; omega) (Cho.says_text h6 ht)
theorem read_more {n m t : Nat} (hnm : n ≤ m) (h6 : m ≤ 6) (ht : Tab n t) : readT m (textOf n t) = some (Cho.ext n m t) :=
  Cho.readT_some h6 (by have := Cho.text_short (by omega) ht; omega) (Cho.says_more hnm (Cho.says_text (by omega) ht))
theorem text_ne {n t : Nat} (h6 : n ≤ 6) (ht : Tab n t) : textOf n t ≠ [] := by
  unfold textOf
  split
  · simp
  · split
    · simp
    · rename_i h0 hf
      intro e
      have := Cho.rend_len3 (Cho.link_last h6 ht h0 hf).1
      rw [e] at this; simp at this
end Go.Proofs.YthoodkbdpnffdabDoor
