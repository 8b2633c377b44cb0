/-
  Own work: the document's answer: the nodes of some functions by an order (a walk).
-/
import Derived.Test.YthejboamnjcdfaaGreatDoorRefAB
import Derived.Maps.AppendAt
namespace Go.Proofs.YthejboamnjcdfaaGreatDoor
open Go.RowKit
open Cho (U64 Tab full col)

/-- A row of numbers that one can read. -/
def RowI (w : World) (v : Value) (l : List Nat) : Prop := ∃ ao cap, v = .slice ao l.length cap ∧ ∀ i (hi : i < l.length), ∃ g, ao = some ⟨g, 0, none⟩ ∧ w.cell? ⟨g, i, none⟩ = some (.int .i64 (l[i] : Nat))
theorem RowI.below {w w1 : World} {v : Value} {l : List Nat} (h : RowI w v l) (hb : Below w.heap.size w w1) : RowI w1 v l := by
  obtain ⟨ao, cap, rfl, hc⟩ := h
  refine ⟨ao, cap, rfl, fun i hi => ?_⟩
  obtain ⟨g, e, h1⟩ := hc i hi
  exact ⟨g, e, (hb.cell (World.block_lt_of_cell? w _ h1)).trans h1⟩

/-- Two rows of tables side by side: one grows, the other is read. -/
structure Two (w wr : World) (v u : Value) (O L : List Nat) : Prop where
  loc : Loc w wr v O
  row : RowU wr u L
  apart : ∀ g, v.ownBlock = some g → u.ownBlock ≠ some g
  lt : ∀ g, u.ownBlock = some g → g < wr.heap.size
theorem two_append {w wr w1 : World} {v v' u : Value} {O L : List Nat} {a : Nat} {o : Obj} (h : Two w wr v u O L) (hr : w1.ownsRow w.heap.size 31 1 v' (O.length + 1) (uv O ++ [.int .u64 (a : Nat)])) (hg : (wr.alloc o).grownBy w1 v.ownBlock)
    (hat : v'.ownBlock = v.ownBlock ∨ v'.ownBlock = some (wr.alloc o).heap.size) : Two w w1 v' u (O ++ [a]) L := by
  have hlt := h.lt
  refine ⟨loc_append h.loc hr hg, ?_, ?_, ?_⟩
  · obtain ⟨ao, cap, rfl, hc⟩ := h.row
    refine ⟨ao, cap, rfl, fun i hi => ?_⟩
    obtain ⟨g, rfl, h1⟩ := hc i hi
    have hgs := World.block_lt_of_cell? wr _ h1
    refine ⟨g, rfl, ?_⟩
    have hk : w1.heap[g]? = wr.heap[g]? := (hg.block g (by simp at hgs ⊢; omega) (fun e => h.apart g e.symm rfl)).trans (Below.heap_alloc _ _ _ hgs)
    exact (World.cell?_of_block (a := ⟨g, i, none⟩) hk).trans h1
  · intro g hgv hgu
    rcases hat with e | e
    · exact h.apart g (by rw [← e]; exact hgv) hgu
    · rw [e] at hgv
      have := hlt g hgu
      simp at hgv; omega
  · intro g hgu
    have := hlt g hgu
    have := hg.size
    simp at this; omega
theorem two_next {w wr w1 : World} {v u u' : Value} {O L L' : List Nat} (h : Two w wr v u O L) (hl : Loc wr w1 u' L') : Two w w1 v u' O L' := by
  refine ⟨h.loc.below hl.bel, hl.rowU, ?_, fun g hg => (hl.row.lt g hg).2⟩
  intro g hgv hgu
  have h1 := (h.loc.row.lt g hgv).2
  have h2 := (hl.row.lt g hgu).1
  omega

theorem outTo_small {n : Nat} (hn : n ≤ 6) (fns ord : List Nat) (hf : fns.length ≤ 31) (k : Nat) (hk : k ≤ n + 1) : (Cho.outTo n fns ord k).length ≤ 4000 := by
  have h1 := Cho.outTo_len n fns ord k
  have h2 : 2 ^ k ≤ 2 ^ 7 := Nat.pow_le_pow_right (by decide) (by omega)
  have h3 : fns.length * 2 ^ k ≤ 31 * 2 ^ 7 := Nat.mul_le_mul hf h2
  omega
theorem nowTo_small {n : Nat} (hn : n ≤ 6) (fns ord : List Nat) (hf : fns.length ≤ 31) (k : Nat) (hk : k ≤ n) : (Cho.nowTo fns ord k).length ≤ 2000 := by
  have h1 := Cho.nowTo_len fns ord k
  have h2 : 2 ^ k ≤ 2 ^ 6 := Nat.pow_le_pow_right (by decide) (by omega)
  have h3 : fns.length * 2 ^ k ≤ 31 * 2 ^ 6 := Nat.mul_le_mul hf h2
  omega

set_option maxRecDepth 100000 in
set_option maxHeartbeats 2000000 in
theorem rnodes_calls (s n : Nat) (fv ov : Value) (fns ord : List Nat) (w : World) (h0 : w.cell? ⟨s, 0, none⟩ = some (.int .i64 n)) (hn : n ≤ 6) (hf : RowU w fv fns) (hflt : ∀ g, fv.ownBlock = some g → g < w.heap.size) (ho : RowI w ov ord)
    (hT : ∀ x ∈ fns, Tab n x) (hfl : fns.length ≤ 31) (hol : ord.length = n) (hom : ∀ v ∈ ord, v < n) :
    Calls Tryz.prog 91 #[.pointer (some ⟨s, 0, none⟩), fv, ov] w fun e w' => ∃ v', e = .returned v' ∧ Loc w w' v' (Cho.nodesT n fns ord) := by
  obtain ⟨i0, hi0, hz0, hz1, hz2⟩ := info_parts Tryz.infoU64
  have HO : Hid (RowI w ov ord) := ho
  have HTN : Hid (∀ k, k ≤ n → ∀ x ∈ Cho.nowTo fns ord k, Tab n x) := fun k hk => Cho.nowTo_tab hn hT hom k (by omega)
  have HOM : Hid (∀ v ∈ ord, v < n) := hom
  have H0 : Hid (w.cell? ⟨s, 0, none⟩ = some (.int .i64 n)) := h0
  have HST : Hid (Two w w (.slice none 0 0) fv [] fns) := ⟨loc_nil (Below.refl _ _), hf, fun g hg => by simp [Value.ownBlock] at hg, hflt⟩
  have HSO : Hid (∀ k, k ≤ n + 1 → (Cho.outTo n fns ord k).length ≤ 4000) := outTo_small hn fns ord hfl
  have HSN : Hid (∀ k, k ≤ n → (Cho.nowTo fns ord k).length ≤ 2000) := nowTo_small hn fns ord hfl
  obtain ⟨af, capf, rfl, hcf⟩ := hf
  obtain ⟨ao, capo, rfl, hco⟩ := ho
  clear h0 hT hcf hco hom hflt
  go_enter Tryz.func91, Tryz.ntmps91
  go_wp2_with fail
  refine (rfull_calls s n _ H0.out hn).mono ?_
  rintro e w1 ⟨rfl, rfl⟩
  have hfu := Cho.full_u64 n hn
  generalize hFL : full n = FL at *
  have HFL : Hid (full n = FL) := hFL
  clear hFL
  go_wp2_with fail
  go_loopw [7, 8, 10] (fun x7 x8 x10 wr => ∃ k : Nat, k ≤ n + 1 ∧ x10 = .int .i64 k ∧ Hid (Two w1 wr x7 x8 (Cho.outTo n fns ord k) (Cho.nowTo fns ord (min k n)))) (fun _ _ x10 _ => n + 1 - (intOf x10).toNat)
  case atStart => exact ⟨0, Nat.zero_le _, rfl, by rw [Nat.zero_min]; exact HST⟩
  case round =>
    obtain ⟨k, hk, rfl, TW⟩ := hrel
    obtain ⟨a7, c7, rfl⟩ := owns_slice TW.out.loc.row
    have H0r : Hid (wr.cell? ⟨s, 0, none⟩ = some (.int .i64 n)) := cell_below H0.out TW.out.loc.bel
    have h0r := H0r.out
    by_cases hlt : k ≤ n
    · have hmin : min k n = k := by omega
      rw [hmin] at TW
      have hL2 := HSN.out k hlt
      have hO4 := HSO.out k hk
      have HOE : Hid (Cho.outTo n fns ord (k + 1) = Cho.layTo n (Cho.outTo n fns ord k) (Cho.nowTo fns ord k) (Cho.nowTo fns ord k).length) := rfl
      have HNE : Hid (Cho.nowTo fns ord (k + 1) = Cho.waysTo (Cho.nowTo fns ord k) (ord.getD k 0) (Cho.nowTo fns ord k).length) := rfl
      have HTk : Hid (∀ x ∈ Cho.nowTo fns ord k, Tab n x) := HTN.out k hlt
      generalize Cho.outTo n fns ord k = O at *
      generalize hLL : Cho.nowTo fns ord k = L at *
      have HLN : Hid (Cho.nowTo fns ord k = L) := hLL
      clear hLL
      obtain ⟨a8, c8, rfl, _⟩ := TW.out.row
      go_wp2_with fail
      go_loopw [7, 11] (fun x7 x11 wi => ∃ i : Nat, i ≤ L.length ∧ x11 = .int .i64 i ∧ Hid (Two w1 wi x7 (.slice a8 L.length c8) (Cho.layTo n O L i) L)) (fun _ x11 _ => L.length - (intOf x11).toNat)
      case atStart => exact ⟨0, Nat.zero_le _, rfl, TW⟩
      case round =>
        obtain ⟨i, hil, rfl, TI⟩ := hrel
        clear TW
        obtain ⟨a7', c7', rfl⟩ := owns_slice TI.out.loc.row
        by_cases hlti : i < L.length
        · obtain ⟨a8', c8', ev, hc⟩ := TI.out.row
          simp only [Value.slice.injEq] at ev
          obtain ⟨rfl, _, rfl⟩ := ev
          obtain ⟨g, rfl, hcell⟩ := hc i hlti
          have HS : Hid (Cho.layTo n O L (i + 1) = Cho.node1 n (Cho.layTo n O L i) L[i]) := by
            show Cho.node1 n _ (L.getD i 0) = _
            rw [show L.getD i 0 = L[i] from by simp [List.getD, hlti]]
          have hPl := Cho.layTo_len n O L i
          clear hc
          generalize hX : L[i] = x at *
          clear hX
          generalize hPP : Cho.layTo n O L i = P at *
          clear hPP
          have HN1 : Hid (Cho.node1 n P x = if x ≠ 0 ∧ x ≠ FL ∧ x ∉ P then P ++ [x] else P) := by show Cho.node1 n P x = _; rw [← HFL.out]; rfl
          by_cases hx0 : x = 0
          · have HE : Hid (Cho.layTo n O L (i + 1) = P) := HS.out.trans (HN1.out.trans (if_neg (fun h => h.1 hx0)))
            subst hx0
            go_wp2_with fail
            refine ⟨⟨i + 1, hlti, by go_num, ?_⟩, by simp [intOf]; omega⟩
            rw [HE.out]; exact TI
          · have hb0 : ((x : Int) != 0) = true := by simp; omega
            by_cases hxf : x = FL
            · have HE : Hid (Cho.layTo n O L (i + 1) = P) := HS.out.trans (HN1.out.trans (if_neg (fun h => h.2.1 hxf)))
              have hb1 : ((x : Int) != (FL : Int)) = false := by simp [hxf]
              go_wp2_with fail
              refine ⟨⟨i + 1, hlti, by go_num, ?_⟩, by simp [intOf]; omega⟩
              rw [HE.out]; exact TI
            · have hb1 : ((x : Int) != (FL : Int)) = true := by simp; omega
              by_cases hxm : x ∈ P
              · have HE : Hid (Cho.layTo n O L (i + 1) = P) := HS.out.trans (HN1.out.trans (if_neg (fun h => h.2.2 hxm)))
                go_wp2_with fail
                refine (ramong_yes x _ P _ TI.out.loc.rowU (by omega) hxm).mono ?_
                rintro e w2 ⟨rfl, rfl⟩
                go_wp2_with fail
                refine ⟨⟨i + 1, hlti, by go_num, ?_⟩, by simp [intOf]; omega⟩
                rw [HE.out]; exact TI
              · have HE : Hid (Cho.layTo n O L (i + 1) = P ++ [x]) := HS.out.trans (HN1.out.trans (if_pos ⟨hx0, hxf, hxm⟩))
                go_wp2_with fail
                refine (ramong_no x _ P _ TI.out.loc.rowU (by omega) hxm).mono ?_
                rintro e w2 ⟨rfl, rfl⟩
                have F1 : Hid (P.length + 1 ≤ maxLen) := by show P.length + 1 ≤ maxLen; unfold maxLen; omega
                have F2 : Hid ((P.length + 1) * 8 ≤ 140737488355328) := by show (P.length + 1) * 8 ≤ 140737488355328; omega
                have F3 : Hid (w1.heap.size ≤ (w2.alloc (.cells #[.int .u64 x] 31)).heap.size) := by show w1.heap.size ≤ (w2.alloc (.cells #[.int .u64 x] 31)).heap.size; have := TI.out.loc.bel.size; simp; omega
                have O5 : Hid ((w2.alloc (.cells #[.int .u64 x] 31)).ownsRow w1.heap.size 31 1 (.slice a7' P.length c7') P.length (uv P)) := TI.out.loc.row.alloc _
                go_wp2_with (at_builtin; refine wpList_append_own_at _ rfl _ _ 126 rfl w1.heap.size 31 i0 _ 1 8 Tryz.underlying126 hi0 hz0 hz1 hz2 rfl (Nat.succ_pos 0) (.slice a7' P.length c7') P.length (uv P) ?e1 O5.out ⟨w2.heap.size, 0, none⟩ 1 1 [.int .u64 x] ?e2 rfl (new_cells w2 [.int .u64 x] _) ?e3 F1.out F2.out F3.out ?_; (case e1 => rfl); (case e2 => rfl); (case e3 => simp [Value.oneCell']); intro v' w3 hown hgrow _ hat; have OW : Hid (Two w1 w3 v' (.slice (some ⟨g, 0, none⟩) L.length c8) (P ++ [x]) L) := two_append TI.out hown hgrow hat; clear hgrow hown hat)
                refine ⟨⟨i + 1, hlti, by go_num, ?_⟩, by simp [intOf]; omega⟩
                rw [HE.out]; exact OW
        · have HI : Hid (i = L.length) := by show i = L.length; omega
          have H0i : Hid (wr.cell? ⟨s, 0, none⟩ = some (.int .i64 n)) := cell_below H0.out TI.out.loc.bel
          have h0i := H0i.out
          clear h0r
          have TE : Hid (Two w1 wr (.slice a7' (Cho.layTo n O L i).length c7') (.slice a8 L.length c8) (Cho.outTo n fns ord (k + 1)) L) := by
            have e : Cho.outTo n fns ord (k + 1) = Cho.layTo n O L i := by rw [HOE.out, HI.out]
            show Two _ _ _ _ _ _
            rw [e]; exact TI.out
          clear TI
          by_cases hkn : k < n
          · obtain ⟨ao', capo', ev, hco⟩ := HO.out.below TE.out.loc.bel
            simp only [Value.slice.injEq] at ev
            obtain ⟨rfl, _, rfl⟩ := ev
            have hkol : k < ord.length := by omega
            obtain ⟨go, rfl, hcell⟩ := hco k hkol
            have HV : Hid (ord[k] < n) := HOM.out _ (List.getElem_mem hkol)
            have HNE' : Hid (Cho.nowTo fns ord (min (k + 1) n) = Cho.waysTo L ord[k] L.length) := by
              show Cho.nowTo fns ord (min (k + 1) n) = _
              rw [show min (k + 1) n = k + 1 from by omega, HNE.out, show ord.getD k 0 = ord[k] from by simp [List.getD, hkol]]
            clear hco
            generalize ord[k] = vk at *
            go_wp2_with fail
            refine (rways_calls s n vk _ L _ H0i.out hn HV.out TE.out.row HTk.out (by omega)).mono ?_
            rintro e w4 ⟨v4, rfl, l4⟩
            have T4 : Hid (Two w1 w4 (.slice a7' (Cho.layTo n O L i).length c7') v4 (Cho.outTo n fns ord (k + 1)) (Cho.nowTo fns ord (min (k + 1) n))) := by
              show Two _ _ _ _ _ _
              rw [HNE'.out]; exact two_next TE.out l4
            clear l4
            go_wp2_with fail
            exact ⟨⟨k + 1, by omega, by go_num, T4⟩, by simp [intOf]; omega⟩
          · have HKN : Hid (min (k + 1) n = k) := by show min (k + 1) n = k; omega
            have T4 : Hid (Two w1 wr (.slice a7' (Cho.layTo n O L i).length c7') (.slice a8 L.length c8) (Cho.outTo n fns ord (k + 1)) L) := TE
            go_wp2_with fail
            refine ⟨⟨k + 1, by omega, by go_num, ?_⟩, by simp [intOf]; omega⟩
            rw [HKN.out, HLN.out]; exact T4
    · have HK : Hid (k = n + 1) := by show k = n + 1; omega
      go_wp2_with fail
      go_ret
      refine ⟨_, rfl, ?_⟩
      have e : Cho.nodesT n fns ord = Cho.outTo n fns ord k := by rw [HK.out]; rfl
      rw [e]; exact TW.out.loc
end Go.Proofs.YthejboamnjcdfaaGreatDoor
