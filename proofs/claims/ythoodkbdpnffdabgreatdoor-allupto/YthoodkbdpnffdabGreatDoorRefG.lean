/-
  Own work: the document's answer: the nodes of some functions by an order (a walk).
-/
import Derived.Test.YthoodkbdpnffdabGreatDoorRefD
import Derived.Maps.AppendAt
namespace Go.Proofs.YthoodkbdpnffdabGreatDoor
open Go.RowKit
open Cho (U64 Tab full col)

/-- A row of numbers that one can read. -/
def RowI (w : World) (v : Value) (l : List Nat) : Prop := ∃ ao cap, v = .slice ao l.length cap ∧ ∀ i (hi : i < l.length), ∃ g, ao = some ⟨g, 0, none⟩ ∧ w.cell? ⟨g, i, none⟩ = some (.int .i64 (l[i] : Nat))
theorem RowI.below {w w1 : World} {v : Value} {l : List Nat} (h : RowI w v l) (hb : Below w.heap.size w w1) : RowI w1 v l := by
  obtain ⟨ao, cap, rfl, hc⟩ := h
  refine ⟨ao, cap, rfl, fun i hi => ?_⟩
  obtain ⟨g, e, h1⟩ := hc i hi
  exact ⟨g, e, (hb.cell (World.block_lt_of_cell? w _ h1)).trans h1⟩

/-- Two rows of tables side by side: one grows, the other is read. -/
structure Two (w wr : World) (v u : Value) (O L : List Nat) : Prop where
  loc : Loc w wr v O
  row : RowU wr u L
  apart : ∀ g, v.ownBlock = some g → u.ownBlock ≠ some g
  lt : ∀ g, u.ownBlock = some g → g < wr.heap.size
theorem two_append {w wr w1 : World} {v v' u : Value} {O L : List Nat} {a : Nat} {o : Obj} (h : Two w wr v u O L) (hr : w1.ownsRow w.heap.size 31 1 v' (O.length + 1) (uv O ++ [.int .u64 (a : Nat)])) (hg : (wr.alloc o).grownBy w1 v.ownBlock)
    (hat : v'.ownBlock = v.ownBlock ∨ v'.ownBlock = some (wr.alloc o).heap.size) : Two w w1 v' u (O ++ [a]) L := by
  have hlt := h.lt
  refine ⟨loc_append h.loc hr hg, ?_, ?_, ?_⟩
  · obtain ⟨ao, cap, rfl, hc⟩ := h.row
    refine ⟨ao, cap, rfl, fun i hi => ?_⟩
    obtain ⟨g, rfl, h1⟩ := hc i hi
    have hgs := World.block_lt_of_cell? wr _ h1
    refine ⟨g, rfl, ?_⟩
    have hk : w1.heap[g]? = wr.heap[g]? := (hg.block g (by simp at hgs ⊢; omega) (fun e => h.apart g e.symm rfl)).trans (Below.heap_alloc _ _ _ hgs)
    exact (World.cell?_of_block (a := ⟨g, i, none⟩) hk).trans h1
  · intro g hgv hgu
    rcases hat with e | e
    · exact h.apart g (by rw [← e]; exact hgv) hgu
    · rw [e] at hgv
      have := hlt g hgu
      simp at hgv; omega
  · intro g hgu
    have := hlt g hgu
    have := hg.size
    simp at this; omega
theorem two_next {w wr w1 : World} {v u u' : Value} {O L L' : List Nat} (h : Two w wr v u O L) (hl : Loc wr w1 u' L') : Two w w1 v u' O L' := by
  refine ⟨h.loc.below hl.bel, hl.rowU, ?_, fun g hg => (hl.row.lt g hg).2⟩
  intro g hgv hgu
  have h1 := (h.loc.row.lt g hgv).2
  have h2 := (hl.row.lt g hgu).1
  omega

theorem outTo_small {n : Nat} (hn : n ≤ 6) (fns ord : List Nat) (hf : fns.length ≤ 31) (k : Nat) (hk : k ≤ n + 1) : (Cho.outTo n fns ord k).length ≤ 4000 := by
  have h1 := Cho.outTo_len n fns ord k
  have h2 : 2 ^ k ≤ 2 ^ 7 := Nat.pow_le_pow_right (by decide) (by omega)
  have h3 : fns.length * 2 ^ k ≤ 31 * 2 ^ 7 := Nat.mul_le_mul hf h2
  omega
theorem nowTo_small {n : Nat} (hn : n ≤ 6) (fns ord : List Nat) (hf : fns.length ≤ 31) (k : Nat) (hk : k ≤ n) : (Cho.nowTo fns ord k).length ≤ 2000 := by
  have h1 := Cho.nowTo_len fns ord k
  have h2 : 2 ^ k ≤ 2 ^ 6 := Nat.pow_le_pow_right (by decide) (by omega)
  have h3 : fns.length * 2 ^ k ≤ 31 * 2 ^ 6 := Nat.mul_le_mul hf h2
  omega

set_option maxRecDepth 100000 in
set_option maxHeartbeats 2000000 in
theorem rnodes_calls (s n : Nat) (fv ov : Value) (fns ord : List Nat) (w : World) (h0 : w.cell? ⟨s, 0, none⟩ = some (.int .i64 n)) (hn : n ≤ 6) (hf : RowU w fv fns) (hflt : ∀ g, fv.ownBlock = some g → g < w.heap.size) (ho : RowI w ov ord)
    (hT : ∀ x ∈ fns, Tab n x) (hfl : fns.length ≤ 31) (hol : ord.length = n) (hom : ∀ v ∈ ord, v < n) :
    Calls Tryz.prog 91 #[.pointer (some ⟨s, 0, none⟩), fv, ov] w fun e w' => ∃ v', e = .returned v' ∧ Loc w w' v' (Cho.nodesT n fns ord) := by
  obtain ⟨i0, hi0, hz0, hz1, hz2⟩ := info_parts Tryz.infoU64
  have HO : Hid (RowI w ov ord) := ho
  have HTN : Hid (∀ k, k ≤ n → ∀ x ∈ Cho.nowTo fns ord k, Tab n x) := fun k hk => Cho.nowTo_tab hn hT hom k (by omega)
  have HOM : Hid (∀ v ∈ ord, v < n) := hom
  have H0 : Hid (w.cell? ⟨s, 0, none⟩ = some (.int .i64 n)) := h0
  have HST : Hid (Two w w (.slice none 0 0) fv [] fns) := ⟨loc_nil (Below.refl _ _), hf, fun g hg => by simp [Value.ownBlock] at hg, hflt⟩
  have HSO : Hid (∀ k, k ≤ n + 1 → (Cho.outTo n fns ord k).length ≤ 4000) := outTo_small hn fns ord hfl
  have HSN : Hid (∀ k, k ≤ n → (Cho.nowTo fns ord k).length ≤ 2000) := nowTo_small hn fns ord hfl
  obtain ⟨af, capf, rfl, hcf⟩ := hf
  obtain ⟨ao, capo, rfl, hco⟩ := ho
  clear h0 hT hcf hco hom hflt
  go_enter Tryz.func91, Tryz.ntmps91
  go_wp2_with fail
  refine (rfull_calls s n _ H0.out hn).mono ?_
  rintro e w1 ⟨rfl, rfl⟩
  have hfu := Cho.full_u64 n hn
  generalize hFL : full n = FL at *
  have HFL : Hid (full n = FL) := hFL
  clear hFL
  go_wp2_with fail
  go_loopw [7, 8, 10] (fun x7 x8 x10 wr => ∃ k : Nat, k ≤ n + 1 ∧ x10 = .int .i64 k ∧ Hid (Two w1 wr x7 x8 (Cho.outTo n fns ord k) (Cho.nowTo fns ord (min k n)))) (fun _ _ x10 _ => n + 1 - (intOf x10).toNat)
  case atStart => exact ⟨0, Nat.zero_le _, rfl, by rw [Nat.zero_min]; exact HST⟩
  case round =>
    obtain ⟨k, hk, rfl, TW⟩ := hrel
    obtain ⟨a7, c7, rfl⟩ := owns_slice TW.out.loc.row
    have H0r : Hid (wr.cell? ⟨s, 0, none⟩ = some (.int .i64 n)) := cell_below H0.out TW.out.loc.bel
    have h0r := H0r.out
    by_cases hlt : k ≤ n
    · have hmin : min k n = k := by omega
      rw [hmin] at TW
      have hL2 := HSN.out k hlt
      have hO4 := HSO.out k hk
      have HOE : Hid (Cho.outTo n fns ord (k + 1) = Cho.layTo n (Cho.outTo n fns ord k) (Cho.nowTo fns ord k) (Cho.nowTo fns ord k).length) := rfl
      have HNE : Hid (Cho.nowTo fns ord (k + 1) = Cho.waysTo (Cho.nowTo fns ord k) (ord.getD k 0) (Cho.nowTo fns ord k).length) := rfl
      have HTk : Hid (∀ x ∈ Cho.nowTo fns ord k, Tab n x) := HTN.out k hlt
      generalize Cho.outTo n fns ord k = O at *
      generalize hLL : Cho.nowTo fns ord k = L at *
      have HLN : Hid (Cho.nowTo fns ord k = L) := hLL
      clear hLL
      obtain ⟨a8, c8, rfl, _⟩ := TW.out.row
      go_wp2_with fail
      go_loopw [7, 11] (fun x7 x11 wi => ∃ i : Nat, i ≤ L.length ∧ x11 = .int .i64 i ∧ Hid (Two w1 wi x7 (.slice a8 L.length c8) (Cho.layTo n O L i) L)) (fun _ x11 _ => L.length - (intOf x11).toNat)
      case atStart => exact ⟨0, Nat.zero_le _, rfl, TW⟩
      case round =>
        obtain ⟨i, hil, rfl, TI⟩ := hrel
        clear TW
        obtain ⟨a7', c7', rfl⟩ := owns_slice TI.out.loc.row
        by_cases hlti : i < L.length
        · obtain ⟨a8', c8', ev, hc⟩ := TI.out.row
          simp only [Value.slice.injEq] at ev
          obtain ⟨rfl, _, rfl⟩ := ev
          obtain ⟨g, rfl, hcell⟩ := hc i hlti
          have HS : Hid (Cho.layTo n O L (i + 1) = Cho.node1 n (Cho.layTo n O L i) L[i]) := by
            show Cho.node1 n _ (L.getD i 0) = _
            rw [show L.getD i 0 = L[i] from by simp [List.getD, hlti]]
          have hPl := Cho.layTo_len n O L i
          clear hc
          generalize hX : L[i] = x at *
          clear hX
          generalize hPP : Cho.layTo n O L i = P at *
          clear hPP
          have HN1 : Hid (Cho.node1 n P x = if x ≠ 0 ∧ x ≠ FL ∧ x ∉ P then P ++ [x] else P) := by show Cho.node1 n P x = _; rw [← HFL.out]; rfl
          by_cases hx0 : x = 0
          · have HE : Hid (Cho.layTo n O L (i + 1) = P) := HS.out.trans (HN1.out.trans (if_neg (fun h => h.1 hx0)))
            subst hx0
            go_wp2_with fail
            refine ⟨⟨i + 1, hlti, by go_num, ?_⟩, by simp [intOf]; omega⟩
            rw [HE.out]; exact TI
          · have hb0 : ((x : Int) != 0) = true := by simp; omega
            by_cases hxf : x = FL
            · have HE : Hid (Cho.layTo n O L (i + 1) = P) := HS.out.trans (HN1.out.trans (if_neg (fun h => h.2.1 hxf)))
              have hb1 : ((x : Int) != (FL : Int)) = false := by simp [hxf]
              go_wp2_with fail
              refine ⟨⟨i + 1, hlti, by go_num, ?_⟩, by simp [intOf]; omega⟩
              rw [HE.out]; exact TI
            · have hb1 : ((x : Int) != (FL : Int)) = true := by simp; omega
              by_cases hxm : x ∈ P
              · have HE : Hid (Cho.layTo n O L (i + 1) = P) := HS.out.trans (HN1.out.trans (if_neg (fun h => h.2.2 hxm)))
                go_wp2_with fail
                refine (ramong_yes x _ P _ TI.out.loc.rowU (by omega) hxm).mono ?_
                rintro e w2 ⟨rfl, rfl⟩
                go_wp2_with fail
                refine ⟨⟨i + 1, hlti, by go_num, ?_⟩, by simp [intOf]; omega⟩
                rw [HE.out]; exact TI
              · have HE : Hid (Cho.layTo n O L (i + 1) = P ++ [x]) := HS.out.trans (HN1.out.trans (if_pos ⟨hx0, hxf, hxm⟩))
                go_wp2_with fail
                refine (ramong_no x _ P _ TI.out.loc.rowU (by omega) hxm).mono ?_
                rintro e w2 ⟨rfl, rfl⟩
                have F1 : Hid (P.length + 1 ≤ maxLen) := by show P.length + 1 ≤ maxLen; unfold maxLen; omega
                have F2 : Hid ((P.length + 1) * 8 ≤ 140737488355328) := by show (P.length + 1) * 8 ≤ 140737488355328; omega
                have F3 : Hid (w1.heap.size ≤ (w2.alloc (.cells #[.int .u64 x] 31)).heap.size) := by show w1.heap.size ≤ (w2.alloc (.cells #[.int .u64 x] 31)).heap.size; have := TI.out.loc.bel.size; simp; omega
                have O5 : Hid ((w2.alloc (.cells #[.int .u64 x] 31)).ownsRow w1.heap.size 31 1 (.slice a7' P.length c7') P.length (uv P)) := TI.out.loc.row.alloc _
                go_wp2_with (at_builtin; refine wpList_append_own_at _ rfl _ _ 127 rfl w1.heap.size 31 i0 _ 1 8 Tryz.underlying127 hi0 hz0 hz1 hz2 rfl (Nat.succ_pos 0) (.slice a7' P.length c7') P.length (uv P) ?e1 O5.out ⟨w2.heap.size, 0, none⟩ 1 1 [.int .u64 x] ?e2 rfl (new_cells w2 [.int .u64 x] _) ?e3 F1.out F2.out F3.out ?_; (case e1 => rfl); (case e2 => rfl); (case e3 => simp [Value.oneCell']); intro v' w3 hown hgrow _ hat; have OW : Hid (Two w1 w3 v' (.slice (some ⟨g, 0, none⟩) L.length c8) (P ++ [x]) L) := two_append TI.out hown hgrow hat; clear hgrow hown hat)
                refine ⟨⟨i + 1, hlti, by go_num, ?_⟩, by simp [intOf]; omega⟩
                rw [HE.out]; exact OW
        · have HI : Hid (i = L.length) := by show i = L.length; omega
          have H0i : Hid (wr.cell? ⟨s, 0, none⟩ = some (.int .i64 n)) := cell_below H0.out TI.out.loc.bel
          have h0i := H0i.out
          clear h0r
          have TE : Hid (Two w1 wr (.slice a7' (Cho.layTo n O L i).length c7') (.slice a8 L.length c8) (Cho.outTo n fns ord (k + 1)) L) := by
            have e : Cho.outTo n fns ord (k + 1) = Cho.layTo n O L i := by rw [HOE.out, HI.out]
            show Two _ _ _ _ _ _
            rw [e]; exact TI.out
          clear TI
          by_cases hkn : k < n
          · obtain ⟨ao', capo', ev, hco⟩ := HO.out.below TE.out.loc.bel
            simp only [Value.slice.injEq] at ev
            obtain ⟨rfl, _, rfl⟩ := ev
            have hkol : k < ord.length := by omega
            obtain ⟨go, rfl, hcell⟩ := hco k hkol
            have HV : Hid (ord[k] < n) := HOM.out _ (List.getElem_mem hkol)
            have HNE' : Hid (Cho.nowTo fns ord (min (k + 1) n) = Cho.waysTo L ord[k] L.length) := by
              show Cho.nowTo fns ord (min (k + 1) n) = _
              rw [show min (k + 1) n = k + 1 from by omega, HNE.out, show ord.getD k 0 = ord[k] from by simp [List.getD, hkol]]
            clear hco
            generalize ord[k] = vk at *
            go_wp2_with fail
            refine (rways_calls s n vk _ L _ H0i.out hn HV.out TE.out.row HTk.out (by omega)).mono ?_
            rintro e w4 ⟨v4, rfl, l4⟩
            have T4 : Hid (Two w1 w4 (.slice a7' (Cho.layTo n O L i).length c7') v4 (Cho.outTo n fns ord (k + 1)) (Cho.nowTo fns ord (min (k + 1) n))) := by
              show Two _ _ _ _ _ _
              rw [HNE'.out]; exact two_next TE.out l4
            clear l4
            go_wp2_with fail
            exact ⟨⟨k + 1, by omega, by go_num, T4⟩, by simp [intOf]; omega⟩
          · have HKN : Hid (min (k + 1) n = k) := by show min (k + 1) n = k; omega
            have T4 : Hid (Two w1 wr (.slice a7' (Cho.layTo n O L i).length c7') (.slice a8 L.length c8) (Cho.outTo n fns ord (k + 1)) L) := TE
            go_wp2_with fail
            refine ⟨⟨k + 1, by omega, by go_num, ?_⟩, by simp [intOf]; omega⟩
            rw [HKN.out, HLN.out]; exact T4
    · have HK : Hid (k = n + 1) := by show k = n + 1; omega
      go_wp2_with fail
      go_ret
      refine ⟨_, rfl, ?_⟩
      have e : Cho.nodesT n fns ord = Cho.outTo n fns ord k := by rw [HK.out]; rfl
      rw [e]; exact TW.out.loc
end Go.Proofs.YthoodkbdpnffdabGreatDoor

/-
  Own work: how a store of the document's answer lies in memory; which handle calls what (walks).
-/
namespace Go.Proofs.YthoodkbdpnffdabGreatDoor
open Go.RowKit
open Cho (U64 Tab full col)

/-- A store of the document's answer. -/
structure RSt where
  n : Nat
  room : Nat
  given : Nat
  L : List (Nat × Nat)
  ord : List Nat
def RSt.hs (r : RSt) : List Nat := r.L.map (·.1)
def RSt.ts (r : RSt) : List Nat := r.L.map (·.2)
def fnv : List (Nat × Nat) → List Value
  | [] => []
  | p :: l => .int .u32 (p.1 : Nat) :: .int .u64 (p.2 : Nat) :: fnv l
theorem fnv_len (l : List (Nat × Nat)) : (fnv l).length = l.length * 2 := by
  induction l with
  | nil => rfl
  | cons p l ih => simp only [fnv, List.length_cons, ih]; omega
theorem fnv_snoc (l : List (Nat × Nat)) (h t : Nat) : fnv l ++ [.int .u32 (h : Nat), .int .u64 (t : Nat)] = fnv (l ++ [(h, t)]) := by
  induction l with
  | nil => rfl
  | cons p l ih => simp only [fnv, List.cons_append, ih]
theorem fnv_get (l : List (Nat × Nat)) (i : Nat) (hi : i < l.length) : (fnv l)[i * 2]? = some (.int .u32 (l[i].1 : Nat)) ∧ (fnv l)[i * 2 + 1]? = some (.int .u64 (l[i].2 : Nat)) := by
  induction l generalizing i with
  | nil => simp at hi
  | cons p l ih =>
    cases i with
    | zero => exact ⟨rfl, rfl⟩
    | succ i =>
      have := ih i (by simpa using hi)
      rw [show (i + 1) * 2 = i * 2 + 1 + 1 from by omega]
      simpa [fnv] using this

structure RefOk (r : RSt) : Prop where
  n1 : 1 ≤ r.n
  n6 : r.n ≤ 6
  room : r.room ≤ 4000
  len : r.L.length ≤ 30
  given : r.given < 4294967296
  hs : ∀ h ∈ r.hs, 0 < h ∧ h ≤ r.given
  nodup : r.hs.Nodup
  tab : ∀ t ∈ r.ts, Tab r.n t
  ordl : r.ord.length = r.n
  ordm : ∀ v ∈ r.ord, v < r.n
/-- It lies in block y; its functions in the row rv, its order in the row ov, which were made since there were B blocks. -/
structure RefAt (B : Nat) (w : World) (y : Nat) (r : RSt) (rv ov : Value) : Prop where
  block : w.heap[y]? = some (.cells #[.int .i64 (r.n : Nat), .int .i64 (r.room : Nat), rv, .int .u32 (r.given : Nat), ov] 65 (0, 0))
  row : w.ownsRow B 115 2 rv r.L.length (fnv r.L)
  ords : w.ownsRow B 3 1 ov r.ord.length (lv r.ord)
  ok : RefOk r
  lo : B ≤ y
section
variable {B : Nat} {w w' : World} {y : Nat} {r : RSt} {rv ov : Value}
theorem RefAt.below (h : RefAt B w y r rv ov) (hb : Below w.heap.size w w') : RefAt B w' y r rv ov :=
  ⟨(hb.block y (lt_of_block h.block)).trans h.block, owns_kept h.row fun g hg => hb.block g (h.row.lt g hg).2, owns_kept h.ords fun g hg => hb.block g (h.ords.lt g hg).2, h.ok, h.lo⟩
theorem RefAt.c0 (h : RefAt B w y r rv ov) : w.cell? ⟨y, 0, none⟩ = some (.int .i64 (r.n : Nat)) := cell_of_block h.block 0
theorem RefAt.c1 (h : RefAt B w y r rv ov) : w.cell? ⟨y, 1, none⟩ = some (.int .i64 (r.room : Nat)) := cell_of_block h.block 1
theorem RefAt.c2 (h : RefAt B w y r rv ov) : w.cell? ⟨y, 2, none⟩ = some rv := cell_of_block h.block 2
theorem RefAt.c3 (h : RefAt B w y r rv ov) : w.cell? ⟨y, 3, none⟩ = some (.int .u32 (r.given : Nat)) := cell_of_block h.block 3
theorem RefAt.c4 (h : RefAt B w y r rv ov) : w.cell? ⟨y, 4, none⟩ = some ov := cell_of_block h.block 4
theorem RefAt.ordI (h : RefAt B w y r rv ov) : RowI w ov r.ord := by
  obtain ⟨ao, cap, rfl⟩ := owns_slice h.ords
  refine ⟨ao, cap, rfl, fun i hi => ?_⟩
  obtain ⟨g, cap', e, _⟩ := owns_form h.ords (by omega)
  simp only [Value.slice.injEq] at e
  obtain ⟨rfl, _, _⟩ := e
  refine ⟨g, rfl, ?_⟩
  have := h.ords.cells (g := g) rfl i (.int .i64 (r.ord[i] : Nat)) (by simp [lv, hi])
  rw [Addr.add_mid, Nat.zero_add] at this
  exact this
/-- The functions can be read. -/
theorem RefAt.slice (h : RefAt B w y r rv ov) : ∃ ao cap, rv = .slice ao r.L.length cap ∧ ∀ i (hi : i < r.L.length), ∃ g, ao = some ⟨g, 0, none⟩ ∧ w.cell? ⟨g, i * 2, none⟩ = some (.int .u32 (r.L[i].1 : Nat)) ∧ w.cell? ⟨g, i * 2 + 1, none⟩ = some (.int .u64 (r.L[i].2 : Nat)) := by
  obtain ⟨ao, cap, rfl⟩ := owns_slice h.row
  refine ⟨ao, cap, rfl, fun i hi => ?_⟩
  obtain ⟨g, cap', e, _⟩ := owns_form h.row (by omega)
  simp only [Value.slice.injEq] at e
  obtain ⟨rfl, _, _⟩ := e
  obtain ⟨e1, e2⟩ := fnv_get r.L i hi
  refine ⟨g, rfl, ?_, ?_⟩
  · have := h.row.cells (g := g) rfl _ _ e1
    rw [Addr.add_mid, Nat.zero_add] at this
    exact this
  · have := h.row.cells (g := g) rfl _ _ e2
    rw [Addr.add_mid, Nat.zero_add] at this
    exact this
end

set_option maxRecDepth 100000 in
set_option maxHeartbeats 1000000 in
theorem rfind_no (B y h : Nat) (r : RSt) (rv ov : Value) (w : World) (hr : RefAt B w y r rv ov) (hno : h ∉ r.hs) :
    Calls Tryz.prog 82 #[.pointer (some ⟨y, 0, none⟩), .int .u32 h] w fun e w' => e = .returned (.int .i64 (-1)) ∧ w' = w := by
  have HN : Hid (∀ i (hi : i < r.L.length), r.L[i].1 ≠ h) := fun i hi e => hno (by rw [← e]; exact List.mem_map_of_mem (List.getElem_mem hi))
  have c2 := hr.c2
  have hlen := hr.ok.len
  obtain ⟨ao, cap, rfl, hc⟩ := hr.slice
  have HC : Hid (∀ i (hi : i < r.L.length), ∃ g, ao = some ⟨g, 0, none⟩ ∧ w.cell? ⟨g, i * 2, none⟩ = some (.int .u32 (r.L[i].1 : Nat)) ∧ w.cell? ⟨g, i * 2 + 1, none⟩ = some (.int .u64 (r.L[i].2 : Nat))) := hc
  clear hc hr hno
  go_enter Tryz.func82, Tryz.ntmps82
  go_wp2_with fail
  go_loopw [5] (fun x5 wr => ∃ k : Nat, k ≤ r.L.length ∧ x5 = .int .i64 k ∧ wr = w) (fun x5 _ => r.L.length - (intOf x5).toNat)
  case atStart => exact ⟨0, Nat.zero_le _, rfl, rfl⟩
  case round =>
    obtain ⟨k, hk, rfl, rfl⟩ := hrel
    by_cases hlt : k < r.L.length
    · obtain ⟨g, rfl, h1, _⟩ := HC.out k hlt
      have hne := HN.out k hlt
      have hb : (((r.L[k].1 : Nat) : Int) == (h : Int)) = false := by simp; omega
      generalize r.L[k].1 = q at *
      go_wp2_with fail
      exact ⟨⟨k + 1, hlt, by go_num, trivial⟩, by simp [intOf]; omega⟩
    · go_wp2_with fail
      go_ret
      exact ⟨rfl, rfl⟩

set_option maxRecDepth 100000 in
set_option maxHeartbeats 1000000 in
theorem rfind_yes (B y h j : Nat) (r : RSt) (rv ov : Value) (w : World) (hr : RefAt B w y r rv ov) (hj : j < r.L.length) (hjh : r.L[j].1 = h) :
    Calls Tryz.prog 82 #[.pointer (some ⟨y, 0, none⟩), .int .u32 h] w fun e w' => e = .returned (.int .i64 (j : Nat)) ∧ w' = w := by
  have HN : Hid (∀ i (hi : i < r.L.length), i ≠ j → r.L[i].1 ≠ h) := by
    intro i hi hij e
    apply hij
    have h1 : i < r.hs.length := by simpa [RSt.hs] using hi
    have h2 : j < r.hs.length := by simpa [RSt.hs] using hj
    exact (List.getElem_inj (h₀ := h1) (h₁ := h2) hr.ok.nodup).1 (by simp [RSt.hs, e, hjh])
  have HJ : Hid (r.L[j].1 = h) := hjh
  have c2 := hr.c2
  have hlen := hr.ok.len
  obtain ⟨ao, cap, rfl, hc⟩ := hr.slice
  have HC : Hid (∀ i (hi : i < r.L.length), ∃ g, ao = some ⟨g, 0, none⟩ ∧ w.cell? ⟨g, i * 2, none⟩ = some (.int .u32 (r.L[i].1 : Nat)) ∧ w.cell? ⟨g, i * 2 + 1, none⟩ = some (.int .u64 (r.L[i].2 : Nat))) := hc
  clear hc hr hjh
  go_enter Tryz.func82, Tryz.ntmps82
  go_wp2_with fail
  go_loopw [5] (fun x5 wr => ∃ k : Nat, k ≤ j ∧ x5 = .int .i64 k ∧ wr = w) (fun x5 _ => j - (intOf x5).toNat)
  case atStart => exact ⟨0, Nat.zero_le _, rfl, rfl⟩
  case round =>
    obtain ⟨k, hk, rfl, rfl⟩ := hrel
    have hlt : k < r.L.length := by omega
    obtain ⟨g, rfl, h1, _⟩ := HC.out k hlt
    by_cases hkj : k = j
    · subst hkj
      have hb : (((r.L[k].1 : Nat) : Int) == (h : Int)) = true := by simp [HJ.out]
      clear HJ HN
      generalize r.L[k].1 = q at *
      go_wp2_with fail
      go_ret
      exact ⟨rfl, rfl⟩
    · have hne := HN.out k hlt hkj
      have hb : (((r.L[k].1 : Nat) : Int) == (h : Int)) = false := by simp; omega
      clear HJ HN
      generalize r.L[k].1 = q at *
      go_wp2_with fail
      exact ⟨⟨k + 1, by omega, by go_num, trivial⟩, by simp [intOf]; omega⟩

set_option maxHeartbeats 1000000 in
theorem rof_calls (B y h j : Nat) (r : RSt) (rv ov : Value) (w : World) (hr : RefAt B w y r rv ov) (hj : j < r.L.length) (hjh : r.L[j].1 = h) :
    Calls Tryz.prog 76 #[.pointer (some ⟨y, 0, none⟩), .int .u32 h] w fun e w' => e = .returned (.int .u64 (r.L[j].2 : Nat)) ∧ ∃ q, w' = w.drewN q := by
  have HR : Hid (RefAt B w y r rv ov) := hr
  have c2 := hr.c2
  have hlen := hr.ok.len
  obtain ⟨ao, cap, rfl, hc⟩ := hr.slice
  obtain ⟨g, rfl, _, h1⟩ := hc j hj
  have HF : Hid (∀ q, RefAt B (w.drewN q) y r (.slice (some ⟨g, 0, none⟩) r.L.length cap) ov) := fun q => HR.out.below (below_drewN (Below.refl _ _) q)
  clear hc hr
  go_enter Tryz.func76, Tryz.ntmps76
  go_wp2_with fail
  go_quiet ((go_at_call 82; exact Calls.quiet_of_same (rfind_yes B y h j r _ _ _ (HF.out _) hj hjh)))
  go_wp2
  go_ret
  exact ⟨rfl, _, rfl⟩
end Go.Proofs.YthoodkbdpnffdabGreatDoor

/-
  Own work: the document's answer: the tables of all functions; whether all handles of a list are live (walks).
-/
namespace Go.Proofs.YthoodkbdpnffdabGreatDoor
open Go.RowKit
open Cho (U64 Tab full col)

theorem take_succ' {l : List Nat} {k : Nat} (h : k < l.length) : l.take (k + 1) = l.take k ++ [l[k]] := List.take_succ_eq_append_getElem h

set_option maxRecDepth 100000 in
set_option maxHeartbeats 1000000 in
theorem rtables_calls (B y : Nat) (r : RSt) (rv ov : Value) (w : World) (hr : RefAt B w y r rv ov) :
    Calls Tryz.prog 93 #[.pointer (some ⟨y, 0, none⟩)] w fun e w' => ∃ v', e = .returned v' ∧ Loc w w' v' r.ts := by
  obtain ⟨i0, hi0, hz0, hz1, hz2⟩ := info_parts Tryz.infoU64
  have HR : Hid (RefAt B w y r rv ov) := hr
  have hlen := hr.ok.len
  have HTL : Hid (r.ts.length = r.L.length) := by show r.ts.length = r.L.length; simp [RSt.ts]
  clear hr
  go_enter Tryz.func93, Tryz.ntmps93
  go_wp2_with fail
  go_loopw [3, 4] (fun x3 x4 wr => ∃ k : Nat, k ≤ r.L.length ∧ x4 = .int .i64 k ∧ Hid (Loc w wr x3 (r.ts.take k))) (fun _ x4 _ => r.L.length - (intOf x4).toNat)
  case atStart => exact ⟨0, Nat.zero_le _, rfl, loc_nil (Below.refl _ _)⟩
  case round =>
    obtain ⟨k, hk, rfl, LR⟩ := hrel
    have HRr : Hid (RefAt B wr y r rv ov) := HR.out.below LR.out.bel
    have c2 := HRr.out.c2
    obtain ⟨al, capl, erv, hc⟩ := HRr.out.slice
    rw [erv] at c2
    obtain ⟨ao, cap, rfl⟩ := owns_slice LR.out.row
    by_cases hlt : k < r.L.length
    · obtain ⟨g, rfl, _, h1⟩ := hc k hlt
      have hkt : k < r.ts.length := by rw [HTL.out]; exact hlt
      have HE : Hid (r.ts.take (k + 1) = r.ts.take k ++ [r.L[k].2]) := by
        show r.ts.take (k + 1) = _
        rw [take_succ' hkt]; simp [RSt.ts]
      have hPl : (r.ts.take k).length = k := by rw [List.length_take]; omega
      clear hc erv
      generalize hX : r.L[k].2 = x at *
      clear hX
      generalize hPP : r.ts.take k = P at *
      clear hPP
      have F1 : Hid (P.length + 1 ≤ maxLen) := by show P.length + 1 ≤ maxLen; unfold maxLen; omega
      have F2 : Hid ((P.length + 1) * 8 ≤ 140737488355328) := by show (P.length + 1) * 8 ≤ 140737488355328; omega
      have F3 : Hid (w.heap.size ≤ (wr.alloc (.cells #[.int .u64 x] 31)).heap.size) := by show w.heap.size ≤ (wr.alloc (.cells #[.int .u64 x] 31)).heap.size; have := LR.out.bel.size; simp; omega
      have O5 : Hid ((wr.alloc (.cells #[.int .u64 x] 31)).ownsRow w.heap.size 31 1 (.slice ao P.length cap) P.length (uv P)) := LR.out.row.alloc _
      go_wp2_with (at_builtin; refine wpList_append_own _ rfl _ _ 127 rfl w.heap.size 31 i0 _ 1 8 Tryz.underlying127 hi0 hz0 hz1 hz2 rfl (Nat.succ_pos 0) (.slice ao P.length cap) P.length (uv P) ?e1 O5.out ⟨wr.heap.size, 0, none⟩ 1 1 [.int .u64 x] ?e2 rfl (new_cells wr [.int .u64 x] _) ?e3 F1.out F2.out F3.out ?_; (case e1 => rfl); (case e2 => rfl); (case e3 => simp [Value.oneCell']); intro v' w3 hown hgrow _; have OW : Hid (Loc w w3 v' (P ++ [x])) := loc_append LR.out hown hgrow; clear hgrow hown)
      refine ⟨⟨k + 1, hlt, by go_num, ?_⟩, by simp [intOf]; omega⟩
      rw [HE.out]; exact OW
    · have HK : Hid (r.ts.take k = r.ts) := by show r.ts.take k = r.ts; exact List.take_of_length_le (by rw [HTL.out]; omega)
      clear hc
      go_wp2_with fail
      go_ret
      refine ⟨_, rfl, ?_⟩
      have := LR.out
      rw [HK.out] at this ⊢
      exact this

/-- A row of handles that one can read. -/
def RowH (w : World) (v : Value) (l : List Nat) : Prop := ∃ g cap, v = .slice (some ⟨g, 0, none⟩) l.length cap ∧ ∀ i (hi : i < l.length), w.cell? ⟨g, i, none⟩ = some (.int .u32 (l[i] : Nat))

set_option maxRecDepth 100000 in
set_option maxHeartbeats 1000000 in
theorem rknows_yes (B y : Nat) (r : RSt) (rv ov v : Value) (l : List Nat) (w : World) (hr : RefAt B w y r rv ov) (hl : RowH w v l) (hll : l.length ≤ 3) (hin : ∀ h ∈ l, h ∈ r.hs) :
    Calls Tryz.prog 75 #[.pointer (some ⟨y, 0, none⟩), v] w fun e w' => e = .returned (.bool true) ∧ w' = w := by
  have HR : Hid (RefAt B w y r rv ov) := hr
  obtain ⟨g, cap, rfl, hc⟩ := hl
  have HC : Hid (∀ i (hi : i < l.length), w.cell? ⟨g, i, none⟩ = some (.int .u32 (l[i] : Nat))) := hc
  have HI : Hid (∀ h ∈ l, h ∈ r.hs) := hin
  clear hr hc hin
  go_enter Tryz.func75, Tryz.ntmps75
  go_wp2_with fail
  go_loopw [5] (fun x5 wr => ∃ k : Nat, k ≤ l.length ∧ x5 = .int .i64 k ∧ wr = w) (fun x5 _ => l.length - (intOf x5).toNat)
  case atStart => exact ⟨0, Nat.zero_le _, rfl, rfl⟩
  case round =>
    obtain ⟨k, hk, rfl, rfl⟩ := hrel
    by_cases hlt : k < l.length
    · have h1 := HC.out k hlt
      have hm := HI.out _ (List.getElem_mem hlt)
      obtain ⟨j, hj, ej⟩ := List.getElem_of_mem hm
      have hj' : j < r.L.length := by simpa [RSt.hs] using hj
      have EJ : Hid (r.L[j].1 = l[k]) := by show r.L[j].1 = l[k]; rw [← ej]; simp [RSt.hs]
      clear hm ej
      generalize l[k] = q at *
      go_wp2_with fail
      refine (rfind_yes B y q j r _ _ _ HR.out hj' EJ.out).mono ?_
      rintro e w1 ⟨rfl, rfl⟩
      go_wp2_with fail
      exact ⟨⟨k + 1, hlt, by go_num, trivial⟩, by simp [intOf]; omega⟩
    · go_wp2_with fail
      go_ret
      exact ⟨rfl, rfl⟩

set_option maxRecDepth 100000 in
set_option maxHeartbeats 1000000 in
theorem rknows_no (B y m : Nat) (r : RSt) (rv ov v : Value) (l : List Nat) (w : World) (hr : RefAt B w y r rv ov) (hl : RowH w v l) (hll : l.length ≤ 3) (hm : m < l.length) (hno : l[m] ∉ r.hs) :
    Calls Tryz.prog 75 #[.pointer (some ⟨y, 0, none⟩), v] w fun e w' => e = .returned (.bool false) ∧ w' = w := by
  have HR : Hid (RefAt B w y r rv ov) := hr
  obtain ⟨g, cap, rfl, hc⟩ := hl
  have HC : Hid (∀ i (hi : i < l.length), w.cell? ⟨g, i, none⟩ = some (.int .u32 (l[i] : Nat))) := hc
  have HM : Hid (l[m] ∉ r.hs) := hno
  clear hr hc hno
  go_enter Tryz.func75, Tryz.ntmps75
  go_wp2_with fail
  go_loopw [5] (fun x5 wr => ∃ k : Nat, k ≤ m ∧ x5 = .int .i64 k ∧ wr = w) (fun x5 _ => m - (intOf x5).toNat)
  case atStart => exact ⟨0, Nat.zero_le _, rfl, rfl⟩
  case round =>
    obtain ⟨k, hk, rfl, rfl⟩ := hrel
    have hlt : k < l.length := by omega
    have h1 := HC.out k hlt
    by_cases hin : l[k] ∈ r.hs
    · have hkm : k ≠ m := by intro e; subst e; exact HM.out hin
      obtain ⟨j, hj, ej⟩ := List.getElem_of_mem hin
      have hj' : j < r.L.length := by simpa [RSt.hs] using hj
      have EJ : Hid (r.L[j].1 = l[k]) := by show r.L[j].1 = l[k]; rw [← ej]; simp [RSt.hs]
      clear hin ej
      generalize l[k] = q at *
      go_wp2_with fail
      refine (rfind_yes B y q j r _ _ _ HR.out hj' EJ.out).mono ?_
      rintro e w1 ⟨rfl, rfl⟩
      go_wp2_with fail
      exact ⟨⟨k + 1, by omega, by go_num, trivial⟩, by simp [intOf]; omega⟩
    · have HQ : Hid (l[k] ∉ r.hs) := hin
      clear hin
      generalize l[k] = q at *
      go_wp2_with fail
      refine (rfind_no B y q r _ _ _ HR.out HQ.out).mono ?_
      rintro e w1 ⟨rfl, rfl⟩
      go_wp2_with fail
      go_ret
      exact ⟨rfl, rfl⟩
end Go.Proofs.YthoodkbdpnffdabGreatDoor
