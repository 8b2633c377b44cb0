/-
  Own work: the document's answer: a function more, or the refusal (walks).
-/
import Derived.Test.YthoodkbdpnffdabGreatDoorRefG
import Derived.Deep.AppendLies
import Derived.Deep.RegionHeld3
namespace Go.Proofs.YthoodkbdpnffdabGreatDoor
open Go.RowKit
open Cho (U64 Tab full col)

theorem Tryz.infoFn : (Tryz.prog.info? 115).map (fun i => (i.zero, i.size, i.bytes)) = some (some (.agg #[.int .u32 0, .int .u64 0]), 2, 16) := by kernel_rfl

/-- Nothing that was there is changed but for these blocks. -/
structure Ch (F : Nat → Prop) (w w' : World) : Prop where
  os : w'.os = w.os
  tape : w'.tape = w.tape
  output : w'.output = w.output
  size : w.heap.size ≤ w'.heap.size
  block : ∀ k, k < w.heap.size → ¬ F k → w'.heap[k]? = w.heap[k]?
theorem Ch.of_below {F : Nat → Prop} {w w' : World} (h : Below w.heap.size w w') : Ch F w w' := ⟨h.os, h.tape, h.output, h.size, fun k hk _ => h.block k hk⟩
theorem Ch.of_grown {F : Nat → Prop} {w w' : World} {o : Option Nat} (h : w.grownBy w' o) (hF : ∀ k, o = some k → F k) : Ch F w w' := ⟨h.os, h.tape, h.output, h.size, fun k hk hn => h.block k hk (fun e => hn (hF k e.symm))⟩
theorem Ch.trans {F : Nat → Prop} {a b c : World} (h : Ch F a b) (k : Ch F b c) : Ch F a c :=
  ⟨k.os.trans h.os, k.tape.trans h.tape, k.output.trans h.output, Nat.le_trans h.size k.size, fun i hi hn => (k.block i (Nat.lt_of_lt_of_le hi h.size) hn).trans (h.block i hi hn)⟩
theorem Ch.mono {F G : Nat → Prop} {a b : World} (h : Ch F a b) (hFG : ∀ k, k < a.heap.size → F k → G k) : Ch G a b :=
  ⟨h.os, h.tape, h.output, h.size, fun i hi hn => h.block i hi (fun hf => hn (hFG i hi hf))⟩

def RSt.push (r : RSt) (t : Nat) : RSt := { r with given := r.given + 1, L := r.L ++ [(r.given + 1, t)] }
/-- What the nodes of all functions and one more are. -/
def RSt.need (r : RSt) (t : Nat) : Nat := (Cho.nodesT r.n (r.ts ++ [t]) r.ord).length
def RSt.used (r : RSt) : Nat := (Cho.nodesT r.n r.ts r.ord).length
theorem push_ok {r : RSt} {t : Nat} (h : RefOk r) (hl : r.L.length < 30) (ht : Tab r.n t) (hg : r.given + 1 < 4294967296) : RefOk (r.push t) := by
  refine ⟨h.n1, h.n6, h.room, by simp [RSt.push]; omega, hg, ?_, ?_, ?_, h.ordl, h.ordm⟩
  · intro x hx
    simp only [RSt.hs, RSt.push, List.map_append, List.mem_append, List.map_cons, List.map_nil, List.mem_cons, List.not_mem_nil, or_false] at hx
    rcases hx with hx | rfl
    · have := h.hs x hx; simp only [RSt.push]; omega
    · simp only [RSt.push]; omega
  · have e : (r.push t).hs = r.hs ++ [r.given + 1] := by simp [RSt.hs, RSt.push]
    rw [e]
    apply Cho.nodup_snoc h.nodup
    intro hm; have := h.hs _ hm; omega
  · intro x hx
    simp only [RSt.ts, RSt.push, List.map_append, List.mem_append, List.map_cons, List.map_nil, List.mem_cons, List.not_mem_nil, or_false] at hx
    rcases hx with hx | rfl
    · exact h.tab x hx
    · exact ht

/-- The count of handles goes on. -/
theorem given_up {B : Nat} {w : World} {y : Nat} {r : RSt} {rv ov : Value} (h : RefAt B w y r rv ov) (hg : r.given + 1 < 4294967296) :
    RefAt B (w.setCell ⟨y, 3, none⟩ (.int .u32 ((r.given : Int) + 1))) y { r with given := r.given + 1 } rv ov := by
  have hk : ∀ g c T, w.heap[g]? = some (.cells c T (0, 0)) → T ≠ 65 → g ≠ y := by
    intro g c T hb hT e
    subst e
    rw [h.block] at hb
    simp at hb
    exact hT hb.2.symm
  refine ⟨?_, owns_kept h.row fun g hg => ?_, owns_kept h.ords fun g hg => ?_, ⟨h.ok.n1, h.ok.n6, h.ok.room, h.ok.len, hg, fun x hx => ?_, h.ok.nodup, h.ok.tab, h.ok.ordl, h.ok.ordm⟩, h.lo⟩
  · simp [World.setCell, Array.getElem?_modify, h.block]
  · obtain ⟨_, ⟨rfl, _⟩ | ⟨g', cap, cur, rfl, _, h2, _⟩⟩ := h.row
    · simp [Value.ownBlock] at hg
    · obtain rfl : g' = g := by simpa [Value.ownBlock] using hg
      exact block_set_other (fun e => hk _ _ _ h2 (by decide) (by simpa using e))
  · obtain ⟨_, ⟨rfl, _⟩ | ⟨g', cap, cur, rfl, _, h2, _⟩⟩ := h.ords
    · simp [Value.ownBlock] at hg
    · obtain rfl : g' = g := by simpa [Value.ownBlock] using hg
      exact block_set_other (fun e => hk _ _ _ h2 (by decide) (by simpa using e))
  · have := h.ok.hs x hx
    simp only; omega

theorem owns_ne {w : World} {B : Nat} {e T : TypeId} {sz : Nat} {v : Value} {n : Nat} {xs : List Value} {y : Nat} {c : Array Value} (h : w.ownsRow B e sz v n xs) (hb : w.heap[y]? = some (.cells c T (0, 0))) (hT : T ≠ e) : some y ≠ v.ownBlock := by
  intro hy
  obtain ⟨_, ⟨rfl, _⟩ | ⟨g', cap, cur, rfl, _, h2, _⟩⟩ := h
  · simp [Value.ownBlock] at hy
  · obtain rfl : y = g' := by simpa [Value.ownBlock] using hy
    rw [hb] at h2
    simp at h2
    exact hT h2.2
theorem ref_keep {B : Nat} {w w1 : World} {y : Nat} {r : RSt} {rv ov : Value} {o : Obj} (h : RefAt B w y r rv ov) (hg : ((w.alloc o).drew).grownBy w1 rv.ownBlock) : w1.heap[y]? = w.heap[y]? := by
  have hy := lt_of_block h.block
  exact (hg.block y (by simp; omega) (owns_ne h.row h.block (by decide))).trans (Below.heap_alloc _ _ _ hy)
theorem grown_fix {W W' w4 : World} {o : Obj} {row : Option Nat} (h : W'.grownBy w4 row) (e1 : W'.os = W.os) (e2 : W'.tape = W.tape) (e3 : W'.output = W.output) (e4 : W'.heap = ((W.alloc o).drew).heap) : ((W.alloc o).drew).grownBy w4 row :=
  ⟨h.os.trans e1, h.tape.trans e2, h.output.trans e3, by rw [← e4]; exact h.size, fun k hk hn => by rw [← e4] at hk ⊢; exact h.block k hk hn⟩
theorem owns_fix {W W' : World} {B : Nat} {e : TypeId} {sz : Nat} {v : Value} {n : Nat} {xs : List Value} (h : W.ownsRow B e sz v n xs) (e4 : W'.heap = W.heap) : W'.ownsRow B e sz v n xs := owns_kept h fun g _ => by rw [e4]
theorem cell_fix {W W' : World} {l : List Value} {b : Nat} (h : ∀ j u, l[j]? = some u → W.cell? ((⟨b, 0, none⟩ : Addr).add j) = some u) (e4 : W'.heap = W.heap) : ∀ j u, l[j]? = some u → W'.cell? ((⟨b, 0, none⟩ : Addr).add j) = some u := fun j u hu => by
  have := h j u hu
  simpa [World.cell?, e4] using this
/-- A function more. -/
theorem ref_push {B : Nat} {w w1 : World} {y g cap : Nat} {r : RSt} {rv ov : Value} {o : Obj} {t : Nat} (h : RefAt B w y { r with given := r.given + 1 } rv ov) (hl : r.L.length < 30) (ht : Tab r.n t) (hr0 : RefOk r) (hgv : r.given + 1 < 4294967296)
    (hown : w1.ownsRow B 115 2 (.slice (some ⟨g, 0, none⟩) (r.L.length + 1) cap) (r.L.length + 1) (fnv r.L ++ [.int .u32 ((r.given : Int) + 1), .int .u64 t])) (hg : ((w.alloc o).drew).grownBy w1 rv.ownBlock) :
    RefAt B (w1.setCell ⟨y, 2, none⟩ (.slice (some ⟨g, 0, none⟩) (r.L.length + 1) cap)) y (r.push t) (.slice (some ⟨g, 0, none⟩) (r.L.length + 1) cap) ov ∧
      Ch (fun k => k = y ∨ rv.ownBlock = some k) w (w1.setCell ⟨y, 2, none⟩ (.slice (some ⟨g, 0, none⟩) (r.L.length + 1) cap)) := by
  have hy := lt_of_block h.block
  have hb1 := (ref_keep h hg).trans h.block
  have e : fnv r.L ++ [.int .u32 ((r.given : Int) + 1), .int .u64 (t : Nat)] = fnv (r.push t).L := fnv_snoc r.L (r.given + 1) t
  have hlen : (r.push t).L.length = r.L.length + 1 := by simp [RSt.push]
  have hgy : g ≠ y := by
    have := owns_ne hown hb1 (by decide)
    intro e; subst e; simp [Value.ownBlock] at this
  refine ⟨⟨?_, ?_, ?_, push_ok hr0 hl ht hgv, h.lo⟩, ?_⟩
  · simp [World.setCell, Array.getElem?_modify, hb1, RSt.push]
  · rw [hlen, ← e]
    exact owns_kept hown fun k hk => block_set_other (by
      obtain rfl : g = k := by simpa [Value.ownBlock] using hk
      exact hgy)
  · refine owns_kept h.ords fun k hk => ?_
    have hne : some k ≠ rv.ownBlock := by
      obtain ⟨_, ⟨rfl, _⟩ | ⟨g', cap, cur, rfl, _, h2, _⟩⟩ := h.ords
      · simp [Value.ownBlock] at hk
      · obtain rfl : g' = k := by simpa [Value.ownBlock] using hk
        exact owns_ne h.row h2 (by decide)
    have hky : k ≠ y := by
      have := owns_ne h.ords h.block (by decide)
      intro e; subst e; exact this hk.symm
    have hlt := (h.ords.lt k hk).2
    rw [block_set_other hky]
    exact (hg.block k (by simp; omega) hne).trans (Below.heap_alloc _ _ _ hlt)
  · have hs := hg.size
    refine ⟨hg.os, hg.tape, hg.output, ?_, fun k hk hn => ?_⟩
    · simp at hs ⊢; omega
    · have h1 : k ≠ y := fun e => hn (.inl e)
      have h2 : some k ≠ rv.ownBlock := fun e => hn (.inr e.symm)
      rw [block_set_other h1]
      exact (hg.block k (by simp; omega) h2).trans (Below.heap_alloc _ _ _ hk)

set_option maxRecDepth 100000 in
set_option maxHeartbeats 1000000 in
theorem rmade_many (B y t : Nat) (r : RSt) (rv ov : Value) (w : World) (hr : RefAt B w y r rv ov) (hl : ¬ r.L.length < 30) :
    Calls Tryz.prog 67 #[.pointer (some ⟨y, 0, none⟩), .int .u64 t] w fun e w' => e = .returned (.tuple #[.int .u32 0, .int .i64 3]) ∧ w' = w := by
  have c2 := hr.c2
  obtain ⟨al, capl, rfl, hc⟩ := hr.slice
  have hlen := hr.ok.len
  clear hc hr
  go_enter Tryz.func67, Tryz.ntmps67
  go_wp2_with fail
  go_ret2
  exact ⟨rfl, rfl⟩

set_option maxRecDepth 100000 in
set_option maxHeartbeats 1000000 in
theorem rmade_room (B y t : Nat) (r : RSt) (rv ov : Value) (w : World) (hr : RefAt B w y r rv ov) (hl : r.L.length < 30) (ht : Tab r.n t) (hroom : ¬ r.need t ≤ r.room) :
    Calls Tryz.prog 67 #[.pointer (some ⟨y, 0, none⟩), .int .u64 t] w fun e w' => e = .returned (.tuple #[.int .u32 0, .int .i64 4]) ∧ Below w.heap.size w w' := by
  obtain ⟨i0, hi0, hz0, hz1, hz2⟩ := info_parts Tryz.infoU64
  have HR : Hid (RefAt B w y r rv ov) := hr
  have HT : Hid (Tab r.n t) := ht
  have hlen := hr.ok.len
  have HTL : Hid (r.ts.length = r.L.length) := by show r.ts.length = r.L.length; simp [RSt.ts]
  have c2 := hr.c2
  obtain ⟨al, capl, erv, hc⟩ := hr.slice
  rw [erv] at c2
  clear hc hr ht erv
  go_enter Tryz.func67, Tryz.ntmps67
  go_wp2_with fail
  refine (rtables_calls B y r _ _ _ HR.out).mono ?_
  rintro e w1 ⟨v1, rfl, l1⟩
  have L1 : Hid (Loc w w1 v1 r.ts) := l1
  clear l1
  obtain ⟨ao, cap, rfl⟩ := owns_slice L1.out.row
  have hPl : r.ts.length ≤ 30 := by rw [HTL.out]; omega
  generalize hPP : r.ts = P at *
  have HPP : Hid (r.ts = P) := hPP
  clear hPP
  have F1 : Hid (P.length + 1 ≤ maxLen) := by show P.length + 1 ≤ maxLen; unfold maxLen; omega
  have F2 : Hid ((P.length + 1) * 8 ≤ 140737488355328) := by show (P.length + 1) * 8 ≤ 140737488355328; omega
  have F3 : Hid (w.heap.size ≤ (w1.alloc (.cells #[.int .u64 t] 31)).heap.size) := by show w.heap.size ≤ (w1.alloc (.cells #[.int .u64 t] 31)).heap.size; have := L1.out.bel.size; simp; omega
  have O5 : Hid ((w1.alloc (.cells #[.int .u64 t] 31)).ownsRow w.heap.size 31 1 (.slice ao P.length cap) P.length (uv P)) := L1.out.row.alloc _
  go_wp2_with (at_builtin; refine wpList_append_own _ rfl _ _ 127 rfl w.heap.size 31 i0 _ 1 8 Tryz.underlying127 hi0 hz0 hz1 hz2 rfl (Nat.succ_pos 0) (.slice ao P.length cap) P.length (uv P) ?e1 O5.out ⟨w1.heap.size, 0, none⟩ 1 1 [.int .u64 t] ?e2 rfl (new_cells w1 [.int .u64 t] _) ?e3 F1.out F2.out F3.out ?_; (case e1 => rfl); (case e2 => rfl); (case e3 => simp [Value.oneCell']); intro v2 w2 hown hgrow _; have OW : Hid (Loc w w2 v2 (P ++ [t])) := loc_append L1.out hown hgrow; have HR2 : Hid (RefAt B w2 y r rv ov) := HR.out.below OW.out.bel; have c4 := HR2.out.c4; clear hgrow hown)
  have HN2 : Hid (RowU w2 v2 (P ++ [t]) ∧ ∀ g, v2.ownBlock = some g → g < w2.heap.size) := ⟨OW.out.rowU, fun g hg => (OW.out.row.lt g hg).2⟩
  have HTT : Hid (∀ x ∈ P ++ [t], Tab r.n x) := by
    intro x hx
    simp only [List.mem_append, List.mem_cons, List.not_mem_nil, or_false] at hx
    rcases hx with hx | rfl
    · exact HR.out.ok.tab x (by rw [HPP.out]; exact hx)
    · exact HT.out
  refine (rnodes_calls y r.n v2 ov (P ++ [t]) r.ord w2 HR2.out.c0 HR2.out.ok.n6 HN2.out.1 HN2.out.2 HR2.out.ordI HTT.out (by simp; omega) HR2.out.ok.ordl HR2.out.ok.ordm).mono ?_
  rintro e w3 ⟨v3, rfl, l3⟩
  have L3 : Hid (Loc w2 w3 v3 (Cho.nodesT r.n (P ++ [t]) r.ord)) := l3
  have HNE : Hid ((Cho.nodesT r.n (P ++ [t]) r.ord).length = r.need t) := by show (Cho.nodesT r.n (P ++ [t]) r.ord).length = (Cho.nodesT r.n (r.ts ++ [t]) r.ord).length; rw [HPP.out]
  have hnl : (Cho.nodesT r.n (P ++ [t]) r.ord).length ≤ 4000 := outTo_small HR2.out.ok.n6 _ _ (by simp; omega) _ (Nat.le_refl _)
  clear l3
  obtain ⟨a3, c3', rfl⟩ := owns_slice L3.out.row
  have HR3 : Hid (RefAt B w3 y r rv ov) := HR2.out.below L3.out.bel
  have c1 := HR3.out.c1
  have hroomN := HR3.out.ok.room
  generalize hNN : (Cho.nodesT r.n (P ++ [t]) r.ord).length = NN at *
  rw [← HNE.out] at hroom
  clear hNN
  go_wp2_with fail
  go_ret2
  exact ⟨rfl, (OW.out.bel).trans (L3.out.bel.mono OW.out.bel.size)⟩

set_option maxRecDepth 100000 in
set_option maxHeartbeats 1000000 in
theorem rmade_ok (B y t : Nat) (r : RSt) (rv ov : Value) (w : World) (hr : RefAt B w y r rv ov) (hl : r.L.length < 30) (ht : Tab r.n t) (hroom : r.need t ≤ r.room) (hg : r.given + 1 < 4294967296) :
    Calls Tryz.prog 67 #[.pointer (some ⟨y, 0, none⟩), .int .u64 t] w fun e w' => ∃ rv', e = .returned (.tuple #[.int .u32 (r.given + 1 : Nat), .int .i64 0]) ∧ RefAt B w' y (r.push t) rv' ov ∧ Ch (fun k => k = y ∨ rv.ownBlock = some k) w w' ∧ (rv'.ownBlock = rv.ownBlock ∨ ∃ g, rv'.ownBlock = some g ∧ w.heap.size ≤ g) := by
  obtain ⟨i0, hi0, hz0, hz1, hz2⟩ := info_parts Tryz.infoU64
  obtain ⟨i1, hi1, hy0, hy1, hy2⟩ := info_parts Tryz.infoFn
  have HR : Hid (RefAt B w y r rv ov) := hr
  have HT : Hid (Tab r.n t) := ht
  have hlen := hr.ok.len
  have HTL : Hid (r.ts.length = r.L.length) := by show r.ts.length = r.L.length; simp [RSt.ts]
  have c2 := hr.c2
  obtain ⟨al, capl, erv, hc⟩ := hr.slice
  rw [erv] at c2
  have ERV : Hid (rv = .slice al r.L.length capl) := erv
  clear hc hr ht erv
  go_enter Tryz.func67, Tryz.ntmps67
  go_wp2_with fail
  refine (rtables_calls B y r _ _ _ HR.out).mono ?_
  rintro e w1 ⟨v1, rfl, l1⟩
  have L1 : Hid (Loc w w1 v1 r.ts) := l1
  clear l1
  obtain ⟨ao, cap, rfl⟩ := owns_slice L1.out.row
  have hPl : r.ts.length ≤ 30 := by rw [HTL.out]; omega
  generalize hPP : r.ts = P at *
  have HPP : Hid (r.ts = P) := hPP
  clear hPP
  have F1 : Hid (P.length + 1 ≤ maxLen) := by show P.length + 1 ≤ maxLen; unfold maxLen; omega
  have F2 : Hid ((P.length + 1) * 8 ≤ 140737488355328) := by show (P.length + 1) * 8 ≤ 140737488355328; omega
  have F3 : Hid (w.heap.size ≤ (w1.alloc (.cells #[.int .u64 t] 31)).heap.size) := by show w.heap.size ≤ (w1.alloc (.cells #[.int .u64 t] 31)).heap.size; have := L1.out.bel.size; simp; omega
  have O5 : Hid ((w1.alloc (.cells #[.int .u64 t] 31)).ownsRow w.heap.size 31 1 (.slice ao P.length cap) P.length (uv P)) := L1.out.row.alloc _
  go_wp2_with (at_builtin; refine wpList_append_own _ rfl _ _ 127 rfl w.heap.size 31 i0 _ 1 8 Tryz.underlying127 hi0 hz0 hz1 hz2 rfl (Nat.succ_pos 0) (.slice ao P.length cap) P.length (uv P) ?e1 O5.out ⟨w1.heap.size, 0, none⟩ 1 1 [.int .u64 t] ?e2 rfl (new_cells w1 [.int .u64 t] _) ?e3 F1.out F2.out F3.out ?_; (case e1 => rfl); (case e2 => rfl); (case e3 => simp [Value.oneCell']); intro v2 w2 hown hgrow _; have OW : Hid (Loc w w2 v2 (P ++ [t])) := loc_append L1.out hown hgrow; have HR2 : Hid (RefAt B w2 y r rv ov) := HR.out.below OW.out.bel; have c4 := HR2.out.c4; clear hgrow hown)
  have HN2 : Hid (RowU w2 v2 (P ++ [t]) ∧ ∀ g, v2.ownBlock = some g → g < w2.heap.size) := ⟨OW.out.rowU, fun g hg => (OW.out.row.lt g hg).2⟩
  have HTT : Hid (∀ x ∈ P ++ [t], Tab r.n x) := by
    intro x hx
    simp only [List.mem_append, List.mem_cons, List.not_mem_nil, or_false] at hx
    rcases hx with hx | rfl
    · exact HR.out.ok.tab x (by rw [HPP.out]; exact hx)
    · exact HT.out
  refine (rnodes_calls y r.n v2 ov (P ++ [t]) r.ord w2 HR2.out.c0 HR2.out.ok.n6 HN2.out.1 HN2.out.2 HR2.out.ordI HTT.out (by simp; omega) HR2.out.ok.ordl HR2.out.ok.ordm).mono ?_
  rintro e w3 ⟨v3, rfl, l3⟩
  have L3 : Hid (Loc w2 w3 v3 (Cho.nodesT r.n (P ++ [t]) r.ord)) := l3
  have HNE : Hid ((Cho.nodesT r.n (P ++ [t]) r.ord).length = r.need t) := by show (Cho.nodesT r.n (P ++ [t]) r.ord).length = (Cho.nodesT r.n (r.ts ++ [t]) r.ord).length; rw [HPP.out]
  have hnl : (Cho.nodesT r.n (P ++ [t]) r.ord).length ≤ 4000 := outTo_small HR2.out.ok.n6 _ _ (by simp; omega) _ (Nat.le_refl _)
  clear l3
  obtain ⟨a3, c3', rfl⟩ := owns_slice L3.out.row
  have HR3 : Hid (RefAt B w3 y r rv ov) := HR2.out.below L3.out.bel
  have c1 := HR3.out.c1
  have hroomN := HR3.out.ok.room
  generalize hNN : (Cho.nodesT r.n (P ++ [t]) r.ord).length = NN at *
  rw [← HNE.out] at hroom
  clear hNN
  have d3 := HR3.out.c3
  have fz := frozen_of_block HR3.out.block 3
  have hyl := lt_of_block HR3.out.block
  go_wp2_with fail
  have HW : Hid (RefAt B (w3.setCell ⟨y, 3, none⟩ (.int .u32 ((r.given : Int) + 1))) y { r with given := r.given + 1 } rv ov) := given_up HR3.out hg
  have HS : Hid (Ch (fun k => k = y) w3 (w3.setCell ⟨y, 3, none⟩ (.int .u32 ((r.given : Int) + 1)))) := ⟨rfl, rfl, rfl, by simp, fun k _ hk => block_set_other (fun e => hk e)⟩
  generalize w3.setCell ⟨y, 3, none⟩ (.int .u32 ((r.given : Int) + 1)) = W at *
  have q2 : W.cell? ⟨y, 2, none⟩ = some (.slice al r.L.length capl) := by rw [← ERV.out]; exact HW.out.c2
  have q3 : W.cell? ⟨y, 3, none⟩ = some (.int .u32 ((r.given : Int) + 1)) := HW.out.c3
  have HROW : Hid (((W.alloc (.cells #[.int .u32 ((r.given : Int) + 1), .int .u64 t] 115)).drew).ownsRow B 115 2 (.slice al r.L.length capl) r.L.length (fnv r.L)) := by
    have := HW.out.row.alloc (.cells #[.int .u32 ((r.given : Int) + 1), .int .u64 t] 115)
    rw [ERV.out] at this; exact this
  have HNEW : Hid (∀ j u, [Value.int .u32 ((r.given : Int) + 1), .int .u64 t][j]? = some u → ((W.alloc (.cells #[.int .u32 ((r.given : Int) + 1), .int .u64 t] 115)).drew).cell? ((⟨W.heap.size, 0, none⟩ : Addr).add j) = some u) := new_cells W [.int .u32 ((r.given : Int) + 1), .int .u64 t] 115
  have HB' : Hid (B ≤ ((W.alloc (.cells #[.int .u32 ((r.given : Int) + 1), .int .u64 t] 115)).drew).heap.size) := by
    have h1 := lt_of_block HW.out.block
    have h2 := HW.out.lo
    show B ≤ ((W.alloc (.cells #[.int .u32 ((r.given : Int) + 1), .int .u64 t] 115)).drew).heap.size
    simp; omega
  have EO : Hid ((Value.slice al r.L.length capl).ownBlock = rv.ownBlock) := by show (Value.slice al r.L.length capl).ownBlock = rv.ownBlock; rw [ERV.out]
  have G1 : Hid (r.L.length + 1 ≤ maxLen) := by show r.L.length + 1 ≤ maxLen; unfold maxLen; omega
  have G2 : Hid ((r.L.length + 1) * 16 ≤ 140737488355328) := by show (r.L.length + 1) * 16 ≤ 140737488355328; omega
  clear c2 d3 fz c1
  have hyW := lt_of_block HW.out.block
  go_region_law
    ((refine step_append_lies _ (by rfl) _ _ 63 (by rfl) B 115 i1 _ 2 16 Tryz.underlying63 hi1 hy0 hy1 hy2 rfl (by decide) (.slice al r.L.length capl) r.L.length (fnv r.L) (by simp [Act.eval]) (owns_fix HROW.out (by rfl)) ⟨W.heap.size, 0, none⟩ 1 1 [.int .u32 ((r.given : Int) + 1), .int .u64 t] (by simp [Act.eval]) rfl (cell_fix HNEW.out (by rfl)) (by simp [Value.oneCell']) (by decide) G1.out G2.out HB'.out (W.heap.size + 1) (by simp) ?_; intro g4 cap4 w4 hown hgrow0 hat hlt; have hgrow := grown_fix (W := W) (o := .cells #[.int .u32 ((r.given : Int) + 1), .int .u64 t] 115) hgrow0 rfl rfl rfl rfl; rw [EO.out] at hgrow; have hb4 := (ref_keep HW.out hgrow).trans HW.out.block; have m2 : w4.cell? ⟨y, 2, none⟩ = some (.slice al r.L.length capl) := (cell_of_block hb4 2).trans (congrArg some ERV.out); have m3 : w4.cell? ⟨y, 3, none⟩ = some (.int .u32 ((r.given : Int) + 1)) := cell_of_block hb4 3; have mf := frozen_of_block hb4 2; have HP : Hid _ := ref_push HW.out hl HT.out HR.out.ok hg hown hgrow; have HAT : Hid _ := hat; clear hown hgrow hgrow0 hat hb4))
  all_goals
    have m5 : (w4.setCell ⟨y, 2, none⟩ (.slice (some ⟨g4, 0, none⟩) (r.L.length + 1) cap4)).cell? ⟨y, 3, none⟩ = some (.int .u32 ((r.given : Int) + 1)) := HP.out.1.c3
    go_wp2_with fail
    go_ret2
    refine ⟨_, rfl, HP.out.1, ?_, ?_⟩
    · have b1 : Ch (fun k => k = y ∨ rv.ownBlock = some k) w w3 := Ch.of_below ((OW.out.bel).trans (L3.out.bel.mono OW.out.bel.size))
      exact (b1.trans (HS.out.mono fun k _ h => .inl h)).trans HP.out.2
    · rcases HAT.out with e | e
      · exact .inl (e.symm.trans EO.out)
      · refine .inr ⟨g4, rfl, ?_⟩
        have h1 := OW.out.bel.size
        have h2 := L3.out.bel.size
        have h3 := HS.out.size
        rw [e]; omega
end Go.Proofs.YthoodkbdpnffdabGreatDoor
