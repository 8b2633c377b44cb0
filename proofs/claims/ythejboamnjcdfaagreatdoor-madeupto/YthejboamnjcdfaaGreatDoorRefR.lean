/-
  Own work: the document's answer: Release (a walk).
-/
import Derived.Test.YthejboamnjcdfaaGreatDoorRefQ
namespace Go.Proofs.YthejboamnjcdfaaGreatDoor
open Go.RowKit
open Cho (U64 Tab full col)

def RSt.drop (r : RSt) (a : Nat) : RSt := { r with L := r.L.filter (fun p => p.1 != a) }
def RSt.release (r : RSt) (a : Nat) : RSt × Nat :=
  match r.get a with
  | some _ => (r.drop a, 0)
  | none => (r, 2)
theorem drop_ok {r : RSt} (h : RefOk r) (a : Nat) : RefOk (r.drop a) := by
  have hsub : (r.drop a).L.Sublist r.L := List.filter_sublist
  have h1 : (r.drop a).hs.Sublist r.hs := hsub.map _
  have h2 : (r.drop a).ts.Sublist r.ts := hsub.map _
  refine ⟨h.n1, h.n6, h.room, Nat.le_trans hsub.length_le h.len, h.given, fun x hx => h.hs x (h1.subset hx), h.nodup.sublist h1, fun x hx => h.tab x (h2.subset hx), h.ordl, h.ordm⟩

/-- A row of functions that was made since the world w. -/
structure LocF (w wr : World) (v : Value) (l : List (Nat × Nat)) : Prop where
  bel : Below w.heap.size w wr
  row : wr.ownsRow w.heap.size 114 2 v l.length (fnv l)
theorem locF_append {w wr w1 : World} {v v' : Value} {l : List (Nat × Nat)} {h t : Nat} {o : Obj} (hl : LocF w wr v l) (hr : w1.ownsRow w.heap.size 114 2 v' (l.length + 1) (fnv l ++ [.int .u32 (h : Nat), .int .u64 (t : Nat)])) (hg : (wr.alloc o).grownBy w1 v.ownBlock) :
    LocF w w1 v' (l ++ [(h, t)]) := by
  have hs := hl.bel.size
  refine ⟨(hl.bel.alloc hs o).grown hg (by simp; omega) (fun q hq => (hl.row.lt q hq).1), ?_⟩
  rw [fnv_snoc] at hr
  simpa using hr
theorem take_filter {l : List (Nat × Nat)} {i : Nat} (hi : i < l.length) (a : Nat) : (l.take (i + 1)).filter (fun p => p.1 != a) = if l[i].1 = a then (l.take i).filter (fun p => p.1 != a) else (l.take i).filter (fun p => p.1 != a) ++ [l[i]] := by
  rw [List.take_succ_eq_append_getElem hi, List.filter_append]
  by_cases h : l[i].1 = a
  · rw [if_pos h]; simp [h]
  · rw [if_neg h]; simp [h]

/-- The row of functions is another now. -/
theorem ref_row {B : Nat} {w w1 : World} {y : Nat} {r : RSt} {rv ov v : Value} {a : Nat} (h : RefAt B w y r rv ov) (hB : B ≤ w.heap.size) (hl : LocF w w1 v (r.drop a).L) :
    RStep B w (w1.setCell ⟨y, 2, none⟩ v) y rv ov (r.drop a) := by
  have hy := lt_of_block h.block
  have hb1 : w1.heap[y]? = _ := (hl.bel.block y hy).trans h.block
  have hg2 : ∀ g, v.ownBlock = some g → w.heap.size ≤ g := fun g hg => (hl.row.lt g hg).1
  refine ⟨⟨v, ⟨?_, ?_, ?_, drop_ok h.ok a, h.lo⟩, ?_⟩, ?_⟩
  · simp [World.setCell, Array.getElem?_modify, hb1, RSt.drop]
  · have h0 := owns_kept (w' := w1.setCell ⟨y, 2, none⟩ v) hl.row fun g hg => block_set_other (by have := hg2 g hg; simp; omega)
    obtain ⟨h1, h2⟩ := h0
    refine ⟨h1, h2.imp id ?_⟩
    rintro ⟨g, cap', cur, e1, e2, e3⟩
    exact ⟨g, cap', cur, e1, by omega, e3⟩
  · refine owns_kept h.ords fun k hk => ?_
    have hky : k ≠ y := by
      have := owns_ne h.ords h.block (by decide)
      intro e; subst e; exact this hk.symm
    rw [block_set_other hky]
    exact hl.bel.block k (h.ords.lt k hk).2
  · exact fun g hg => .inr (hg2 g hg)
  · refine ⟨hl.bel.os, hl.bel.tape, hl.bel.output, ?_, fun k hk hn => ?_⟩
    · have := hl.bel.size; simpa using this
    · rw [block_set_other (fun e => hn (.inl e))]
      exact hl.bel.block k hk

set_option maxRecDepth 100000 in
set_option maxHeartbeats 1000000 in
theorem rrelease_some (B y a f : Nat) (r : RSt) (rv ov : Value) (w : World) (hr : RefAt B w y r rv ov) (hB : B ≤ w.heap.size) (ha : r.get a = some f) :
    Calls Tryz.prog 32 #[.pointer (some ⟨y, 0, none⟩), .int .u32 a] w fun e w' => e = .returned (.int .i64 0) ∧ RStep B w w' y rv ov (r.drop a) := by
  obtain ⟨i1, hi1, hy0, hy1, hy2⟩ := info_parts Tryz.infoFn
  have HR : Hid (RefAt B w y r rv ov) := hr
  obtain ⟨j, hj, hja, _⟩ := get_some ha
  have HJ : Hid (r.L[j].1 = a) := hja
  have HNE : Hid (∀ i (hi : i < r.L.length), i ≠ j → r.L[i].1 ≠ a) := by
    intro i hi hij e
    apply hij
    have h1 : i < r.hs.length := by simpa [RSt.hs] using hi
    have h2 : j < r.hs.length := by simpa [RSt.hs] using hj
    exact (List.getElem_inj (h₀ := h1) (h₁ := h2) hr.ok.nodup).1 (by simp [RSt.hs, e, hja])
  have hlen := hr.ok.len
  have HTF : Hid (∀ i, (r.L.take i).filter (fun p => p.1 != a) = (r.L.take i).filter (fun p => p.1 != a)) := fun _ => rfl
  clear hr ha hja HTF
  go_enter Tryz.func32, Tryz.ntmps32
  go_wp2_with fail
  refine (rfind_yes B y a j r _ _ _ HR.out hj HJ.out).mono ?_
  rintro e w0 ⟨rfl, rfl⟩
  go_wp2_with fail
  go_loopw [6, 7] (fun x6 x7 wr => ∃ i : Nat, i ≤ r.L.length ∧ x7 = .int .i64 i ∧ Hid (LocF w0 wr x6 ((r.L.take i).filter (fun p => p.1 != a)))) (fun _ x7 _ => r.L.length - (intOf x7).toNat)
  case atStart => exact ⟨0, Nat.zero_le _, rfl, ⟨Below.refl _ _, World.ownsRow_nil _ _ _ _⟩⟩
  case round =>
    obtain ⟨i, hi, rfl, LR⟩ := hrel
    have HRr : Hid (RefAt B wr y r rv ov) := HR.out.below LR.out.bel
    have c2 := HRr.out.c2
    obtain ⟨al, capl, erv, hc⟩ := HRr.out.slice
    rw [erv] at c2
    obtain ⟨ao, cap, rfl⟩ := owns_slice LR.out.row
    by_cases hlt : i < r.L.length
    · obtain ⟨g, rfl, h1, h2⟩ := hc i hlt
      have HT : Hid ((r.L.take (i + 1)).filter (fun p => p.1 != a) = if r.L[i].1 = a then (r.L.take i).filter (fun p => p.1 != a) else (r.L.take i).filter (fun p => p.1 != a) ++ [r.L[i]]) := take_filter hlt a
      have hPl : ((r.L.take i).filter (fun p => p.1 != a)).length ≤ 30 := Nat.le_trans (List.length_filter_le _ _) (by rw [List.length_take]; omega)
      clear hc erv
      by_cases hij : i = j
      · have HE : Hid ((r.L.take (i + 1)).filter (fun p => p.1 != a) = (r.L.take i).filter (fun p => p.1 != a)) := HT.out.trans (if_pos (by subst hij; exact HJ.out))
        subst hij
        go_wp2_with fail
        refine ⟨⟨i + 1, hlt, by go_num, ?_⟩, by simp [intOf]; omega⟩
        rw [HE.out]; exact LR
      · have HE : Hid ((r.L.take (i + 1)).filter (fun p => p.1 != a) = (r.L.take i).filter (fun p => p.1 != a) ++ [r.L[i]]) := HT.out.trans (if_neg (HNE.out i hlt hij))
        have hbne : ((i : Int) != (j : Int)) = true := by simp; omega
        have EP : Hid (r.L[i] = (r.L[i].1, r.L[i].2)) := rfl
        generalize hX : r.L[i].1 = hh at *
        generalize hY : r.L[i].2 = tt at *
        generalize r.L[i] = pp at *
        clear hX hY
        generalize hPP : (r.L.take i).filter (fun p => p.1 != a) = P at *
        clear hPP
        have F1 : Hid (P.length + 1 ≤ maxLen) := by show P.length + 1 ≤ maxLen; unfold maxLen; omega
        have F2 : Hid ((P.length + 1) * 16 ≤ 140737488355328) := by show (P.length + 1) * 16 ≤ 140737488355328; omega
        have F3 : Hid (w0.heap.size ≤ (wr.alloc (.cells #[.int .u32 hh, .int .u64 tt] 114)).heap.size) := by show w0.heap.size ≤ (wr.alloc (.cells #[.int .u32 hh, .int .u64 tt] 114)).heap.size; have := LR.out.bel.size; simp; omega
        have O5 : Hid ((wr.alloc (.cells #[.int .u32 hh, .int .u64 tt] 114)).ownsRow w0.heap.size 114 2 (.slice ao P.length cap) P.length (fnv P)) := LR.out.row.alloc _
        go_wp2_with (at_builtin; go_must (refine wpList_append_own _ rfl _ _ 63 rfl w0.heap.size 114 i1 _ 2 16 Tryz.underlying63 hi1 hy0 hy1 hy2 rfl (Nat.succ_pos 1) (.slice ao P.length cap) P.length (fnv P) ?e1 O5.out ⟨wr.heap.size, 0, none⟩ 1 1 [.int .u32 hh, .int .u64 tt] ?e2 rfl (new_cells wr [.int .u32 hh, .int .u64 tt] _) ?e3 F1.out F2.out F3.out ?_); (case e1 => rfl); (case e2 => rfl); (case e3 => simp [Value.oneCell']); intro v' w3 hown hgrow _; have OW : Hid (LocF w0 w3 v' (P ++ [(hh, tt)])) := locF_append LR.out hown hgrow; clear hgrow hown)
        refine ⟨⟨i + 1, hlt, by go_num, ?_⟩, by simp [intOf]; omega⟩
        rw [HE.out, EP.out]; exact OW
    · have HK : Hid ((r.L.take i).filter (fun p => p.1 != a) = (r.drop a).L) := by show (r.L.take i).filter (fun p => p.1 != a) = r.L.filter (fun p => p.1 != a); rw [List.take_of_length_le (by omega)]
      have fz := frozen_of_block HRr.out.block 2
      have hyl := lt_of_block HRr.out.block
      clear hc
      have LE : Hid (LocF w0 wr (.slice ao ((r.L.take i).filter (fun p => p.1 != a)).length cap) (r.drop a).L) := by
        have := LR.out; rw [HK.out] at this ⊢; exact this
      clear LR
      go_wp2_with fail
      go_ret
      exact ⟨rfl, ref_row HR.out hB LE.out⟩

set_option maxHeartbeats 1000000 in
theorem rrelease_none (B y a : Nat) (r : RSt) (rv ov : Value) (w : World) (hr : RefAt B w y r rv ov) (ha : r.get a = none) :
    Calls Tryz.prog 32 #[.pointer (some ⟨y, 0, none⟩), .int .u32 a] w fun e w' => e = .returned (.int .i64 2) ∧ w' = w := by
  have HR : Hid (RefAt B w y r rv ov) := hr
  have HN : Hid (a ∉ r.hs) := get_none ha
  clear hr ha
  go_enter Tryz.func32, Tryz.ntmps32
  go_wp2_with fail
  refine (rfind_no B y a r _ _ _ HR.out HN.out).mono ?_
  rintro e w1 ⟨rfl, rfl⟩
  go_wp2_with fail
  go_ret
  exact ⟨rfl, rfl⟩
end Go.Proofs.YthejboamnjcdfaaGreatDoor
