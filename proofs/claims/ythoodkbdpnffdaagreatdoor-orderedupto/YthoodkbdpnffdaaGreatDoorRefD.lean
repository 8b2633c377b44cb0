/-
  Own work: the document's answer: a variable fixed, a table among others (walks).
-/
import Derived.Test.YthoodkbdpnffdaaGreatDoorRefA
import Derived.Test.YthoodkbdpnffdaaGreatDoorStoreM
import Derived.Test.YthoodkbdpnffdaaGreatDoorWithA
import Derived.Test.YthoodkbdpnffdaaGreatDoorPlainM
import Derived.Deep.DeepMust
namespace Go.Proofs.YthoodkbdpnffdaaGreatDoor
open Go.RowKit
open Cho (U64 Tab full col)

set_option maxHeartbeats 400000 in
theorem rfixed_calls (s n t i : Nat) (to : Bool) (w : World) (h0 : w.cell? ⟨s, 0, none⟩ = some (.int .i64 n)) (hn : n ≤ 6) (ht : Tab n t) (hi : i < n) :
    Calls Tryz.prog 97 #[.pointer (some ⟨s, 0, none⟩), .int .u64 t, .int .i64 i, .bool to] w fun e w' => e = .returned (.int .u64 (Cho.fix t i to : Nat)) ∧ w' = w := by
  have h64 := Cho.two_pow_le n hn
  have H0 : Hid (w.cell? ⟨s, 0, none⟩ = some (.int .i64 n)) := h0
  have HF : Hid (Cho.bld (fun p => t.testBit (Cho.put p i to)) (2 ^ n) = Cho.fix t i to) := Cho.bld_fix to ht hn hi
  clear h0 ht
  generalize hf : (fun p => t.testBit (Cho.put p i to)) = f at *
  have Hf : Hid (∀ p, t.testBit (Cho.put p i to) = f p) := by intro p; rw [← hf]
  clear hf
  go_enter Tryz.func97, Tryz.ntmps97
  go_wp2_with fail
  go_loopw [9, 10] (fun u i wr => ∃ k : Nat, k ≤ 2 ^ n ∧ i = .int .i64 k ∧ u = .int .u64 (Cho.bld f k : Nat) ∧ wr = w) (fun _ i _ => 2 ^ n - (intOf i).toNat)
  case atStart => exact ⟨0, Nat.zero_le _, rfl, rfl, rfl⟩
  case round =>
    obtain ⟨k, hk, rfl, rfl, rfl⟩ := hrel
    have HP : Hid (k < 2 ^ n → Cho.put k i to < 2 ^ n) := Cho.put_lt k i n to hi
    have HC : Hid (Calls Tryz.prog 74 #[.pointer (some ⟨s, 0, none⟩)] wr fun e w' => e = .returned (.int .i64 ((2 ^ n : Nat) : Nat)) ∧ w' = wr) := rplaces_calls s n wr H0.out hn
    generalize 2 ^ n = N at *
    go_wp2_with fail
    refine HC.out.mono ?_
    rintro e w1 ⟨rfl, rfl⟩
    by_cases hlt : k < N
    · have E : Hid (Cho.bld f (k + 1) = if f k then Cho.bld f k ||| 2 ^ k else Cho.bld f k) := rfl
      have hu := Cho.bld_u64 f k (by omega)
      generalize Cho.bld f k = u at *
      go_wp2_with fail
      refine (rwith_calls k i to _ (by omega) (by omega)).mono ?_
      rintro e w2 ⟨rfl, rfl⟩
      have hq := HP.out hlt
      have HA : Hid (Calls Tryz.prog 79 #[.int .u64 t, .int .i64 (Cho.put k i to : Nat)] w2 fun e w' => e = .returned (.bool (f k)) ∧ w' = w2) := by
        have := rat_calls t (Cho.put k i to) w2 (by omega); rw [Hf.out] at this; exact this
      generalize Cho.put k i to = q at *
      go_wp2_with fail
      refine HA.out.mono ?_
      rintro e w3 ⟨rfl, rfl⟩
      cases hfk : f k
      · go_wp2_with fail
        refine ⟨⟨k + 1, hlt, by go_num, val_int ?_, trivial⟩, by simp [intOf]; omega⟩
        rw [E.out, hfk]; rfl
      · go_wp2_with fail
        refine ⟨⟨k + 1, hlt, by go_num, val_int ?_, trivial⟩, by simp [intOf]; omega⟩
        rw [E.out, hfk]
        exact setbit64 hu k (by omega)
    · go_wp2_with fail
      go_ret
      exact ⟨ret_int (by rw [← HF.out, show k = N from by omega]), rfl⟩

/-- A row of 64 bit numbers that one can read. -/
def RowU (w : World) (v : Value) (l : List Nat) : Prop := ∃ ao cap, v = .slice ao l.length cap ∧ ∀ i (hi : i < l.length), ∃ g, ao = some ⟨g, 0, none⟩ ∧ w.cell? ⟨g, i, none⟩ = some (.int .u64 (l[i] : Nat))

set_option maxHeartbeats 400000 in
theorem ramong_calls (t : Nat) (v : Value) (l : List Nat) (w : World) (hl : RowU w v l) (hll : l.length ≤ 100000) :
    Calls Tryz.prog 118 #[.int .u64 t, v] w fun e w' => e = .returned (.bool (decide (t ∈ l))) ∧ w' = w := by
  obtain ⟨ao, cap, rfl, hc⟩ := hl
  have HL : Hid (∀ i (hi : i < l.length), ∃ g, ao = some ⟨g, 0, none⟩ ∧ w.cell? ⟨g, i, none⟩ = some (.int .u64 (l[i] : Nat))) := hc
  clear hc
  go_enter Tryz.func118, Tryz.ntmps118
  go_wp2_with fail
  go_loopw [5] (fun i wr => ∃ k : Nat, k ≤ l.length ∧ i = .int .i64 k ∧ wr = w ∧ Hid (∀ j (hj : j < l.length), j < k → l[j] ≠ t)) (fun i _ => l.length - (intOf i).toNat)
  case atStart => exact ⟨0, Nat.zero_le _, rfl, rfl, fun _ _ h => absurd h (Nat.not_lt_zero _)⟩
  case round =>
    obtain ⟨k, hk, rfl, rfl, HN⟩ := hrel
    by_cases hlt : k < l.length
    · obtain ⟨g, rfl, hcell⟩ := HL.out k hlt
      by_cases he : l[k] = t
      · have HM : Hid (t ∈ l) := by show t ∈ l; rw [← he]; exact List.getElem_mem hlt
        have hb : (((l[k] : Nat) : Int) == (t : Int)) = true := by simp [he]
        go_wp2_with fail
        go_ret
        exact ⟨ret_bool (decide_eq_true HM.out).symm, rfl⟩
      · have hb : (((l[k] : Nat) : Int) == (t : Int)) = false := by simp; omega
        go_wp2_with fail
        refine ⟨⟨k + 1, hlt, by go_num, trivial, ?_⟩, by simp [intOf]; omega⟩
        intro j hj hjk
        by_cases e : j = k
        · subst e; exact he
        · exact HN.out j hj (by omega)
    · have HM : Hid (t ∉ l) := by
        intro hm
        obtain ⟨j, hj, e⟩ := List.getElem_of_mem hm
        exact HN.out j hj (by omega) e
      go_wp2_with fail
      go_ret
      exact ⟨ret_bool (decide_eq_false HM.out).symm, rfl⟩
theorem ramong_yes (t : Nat) (v : Value) (l : List Nat) (w : World) (hl : RowU w v l) (hll : l.length ≤ 100000) (h : t ∈ l) :
    Calls Tryz.prog 118 #[.int .u64 t, v] w fun e w' => e = .returned (.bool true) ∧ w' = w := by
  have := ramong_calls t v l w hl hll
  rw [decide_eq_true h] at this; exact this
theorem ramong_no (t : Nat) (v : Value) (l : List Nat) (w : World) (hl : RowU w v l) (hll : l.length ≤ 100000) (h : t ∉ l) :
    Calls Tryz.prog 118 #[.int .u64 t, v] w fun e w' => e = .returned (.bool false) ∧ w' = w := by
  have := ramong_calls t v l w hl hll
  rw [decide_eq_false h] at this; exact this
end Go.Proofs.YthoodkbdpnffdaaGreatDoor

/-
  Own work: rows of tables that a call makes for itself (how they lie, how they grow).
-/
namespace Go.Proofs.YthoodkbdpnffdaaGreatDoor
open Go.RowKit
open Cho (U64 Tab full col)

theorem Tryz.infoU64 : (Tryz.prog.info? 31).map (fun i => (i.zero, i.size, i.bytes)) = some (some (.int .u64 0), 1, 8) := by kernel_rfl
def uv (l : List Nat) : List Value := l.map fun x => .int .u64 (x : Nat)
theorem uv_len (l : List Nat) : (uv l).length = l.length := by simp [uv]
theorem uv_snoc (l : List Nat) (a : Nat) : uv l ++ [.int .u64 (a : Nat)] = uv (l ++ [a]) := by simp [uv]
/-- A row of tables that was made since the world w; all that was there is as it was. -/
structure Loc (w wr : World) (v : Value) (l : List Nat) : Prop where
  bel : Below w.heap.size w wr
  row : wr.ownsRow w.heap.size 31 1 v l.length (uv l)
theorem loc_nil {w wr : World} (h : Below w.heap.size w wr) : Loc w wr (.slice none 0 0) [] := ⟨h, World.ownsRow_nil _ _ _ _⟩
theorem loc_append {w wr w1 : World} {v v' : Value} {l : List Nat} {a : Nat} {o : Obj} (h : Loc w wr v l) (hr : w1.ownsRow w.heap.size 31 1 v' (l.length + 1) (uv l ++ [.int .u64 (a : Nat)])) (hg : (wr.alloc o).grownBy w1 v.ownBlock) :
    Loc w w1 v' (l ++ [a]) := by
  have hs := h.bel.size
  refine ⟨(h.bel.alloc hs o).grown hg (by simp; omega) (fun q hq => (h.row.lt q hq).1), ?_⟩
  rw [uv_snoc] at hr
  simpa using hr
theorem Loc.below {w wr w1 : World} {v : Value} {l : List Nat} (h : Loc w wr v l) (hb : Below wr.heap.size wr w1) : Loc w w1 v l :=
  ⟨h.bel.trans (hb.mono h.bel.size), owns_kept h.row fun g hg => hb.block g (h.row.lt g hg).2⟩
/-- A row can be read. -/
theorem owns_rowU {w : World} {B : Nat} {v : Value} {l : List Nat} {m : Nat} (h : w.ownsRow B 31 1 v m (uv l)) (hm : m = l.length) : RowU w v l := by
  subst hm
  have hc := @World.ownsRow.cells
  obtain ⟨ao, cap, rfl⟩ := owns_slice h
  refine ⟨ao, cap, rfl, fun i hi => ?_⟩
  obtain ⟨g, cap', e, _⟩ := owns_form h (by omega)
  simp only [Value.slice.injEq] at e
  obtain ⟨rfl, _, _⟩ := e
  refine ⟨g, rfl, ?_⟩
  have := h.cells (g := g) rfl i (.int .u64 (l[i] : Nat)) (by simp [uv, hi])
  rw [Addr.add_mid, Nat.zero_add] at this
  exact this
theorem Loc.rowU {w wr : World} {v : Value} {l : List Nat} (h : Loc w wr v l) : RowU wr v l := owns_rowU h.row rfl
theorem RowU.below {w w1 : World} {v : Value} {l : List Nat} (h : RowU w v l) (hb : Below w.heap.size w w1) : RowU w1 v l := by
  obtain ⟨ao, cap, rfl, hc⟩ := h
  refine ⟨ao, cap, rfl, fun i hi => ?_⟩
  obtain ⟨g, e, h1⟩ := hc i hi
  exact ⟨g, e, (hb.cell (World.block_lt_of_cell? w _ h1)).trans h1⟩
theorem cell_below {w w1 : World} {a : Addr} {v : Value} (h : w.cell? a = some v) (hb : Below w.heap.size w w1) : w1.cell? a = some v := (hb.cell (World.block_lt_of_cell? w _ h)).trans h
end Go.Proofs.YthoodkbdpnffdaaGreatDoor

/-
  Own work: the document's answer: what functions become when a variable is fixed (a walk).
-/
namespace Go.Proofs.YthoodkbdpnffdaaGreatDoor
open Go.RowKit
open Cho (U64 Tab full col)

set_option maxRecDepth 100000 in
set_option maxHeartbeats 1000000 in
theorem rways_calls (s n i : Nat) (v : Value) (l : List Nat) (w : World) (h0 : w.cell? ⟨s, 0, none⟩ = some (.int .i64 n)) (hn : n ≤ 6) (hi : i < n) (hl : RowU w v l) (hT : ∀ x ∈ l, Tab n x) (hll : l.length ≤ 10000) :
    Calls Tryz.prog 119 #[.pointer (some ⟨s, 0, none⟩), v, .int .i64 i] w fun e w' => ∃ v', e = .returned v' ∧ Loc w w' v' (Cho.waysTo l i l.length) := by
  obtain ⟨i0, hi0, hz0, hz1, hz2⟩ := info_parts Tryz.infoU64
  have HL : Hid (RowU w v l) := hl
  have HT : Hid (∀ x ∈ l, Tab n x) := hT
  have H0 : Hid (w.cell? ⟨s, 0, none⟩ = some (.int .i64 n)) := h0
  obtain ⟨al, capl, rfl, hcl⟩ := hl
  clear h0 hT hcl
  go_enter Tryz.func119, Tryz.ntmps119
  go_wp2_with fail
  go_loopw [7, 8] (fun x7 x8 wr => ∃ k : Nat, k ≤ l.length ∧ x8 = .int .i64 k ∧ Hid (Loc w wr x7 (Cho.waysTo l i k))) (fun _ x8 _ => l.length - (intOf x8).toNat)
  case atStart => exact ⟨0, Nat.zero_le _, rfl, loc_nil (Below.refl _ _)⟩
  case round =>
    obtain ⟨k, hk, rfl, LR⟩ := hrel
    by_cases hlt : k < l.length
    · obtain ⟨ao, cap, rfl⟩ := owns_slice LR.out.row
      obtain ⟨al', capl', ev, hc⟩ := HL.out.below LR.out.bel
      simp only [Value.slice.injEq] at ev
      obtain ⟨rfl, _, rfl⟩ := ev
      obtain ⟨g, rfl, hcell⟩ := hc k hlt
      have HTk : Hid (Tab n l[k]) := HT.out _ (List.getElem_mem hlt)
      have HE0 : Hid (Cho.waysTo l i (k + 1) = Cho.addN (Cho.addN (Cho.waysTo l i k) (Cho.fix l[k] i false)) (Cho.fix l[k] i true)) := by
        show Cho.addN (Cho.addN _ (Cho.fix (l.getD k 0) i false)) (Cho.fix (l.getD k 0) i true) = _
        rw [show l.getD k 0 = l[k] from by simp [List.getD, hlt]]
      have hlen := Cho.waysTo_len l i k
      have H0r : Hid (wr.cell? ⟨s, 0, none⟩ = some (.int .i64 n)) := cell_below H0.out LR.out.bel
      clear hc
      generalize hX : l[k] = x at *
      clear hX
      generalize hO : Cho.waysTo l i k = O0 at *
      clear hO
      go_wp2_with fail
      refine (rfixed_calls s n x i false _ H0r.out hn HTk.out hi).mono ?_
      rintro e w1 ⟨rfl, rfl⟩
      generalize Cho.fix x i false = a at *
      go_wp2_with fail
      refine (rfixed_calls s n x i true _ H0r.out hn HTk.out hi).mono ?_
      rintro e w2 ⟨rfl, rfl⟩
      generalize Cho.fix x i true = b at *
      by_cases ham : a ∈ O0
      · have HAM : Hid (a ∈ O0) := ham
        have HE : Hid (Cho.waysTo l i (k + 1) = Cho.addN O0 b) := HE0.out.trans (by rw [show Cho.addN O0 a = O0 from by simp [Cho.addN, ham]])
        generalize hO1 : O0 = O1 at *
        clear hO1
        go_wp2_with fail
        refine (ramong_yes a _ O1 _ LR.out.rowU (by omega) HAM.out).mono ?_
        rintro e w3 ⟨rfl, rfl⟩
        have := 0; clear this
        by_cases hbm : b ∈ O1
        · have HS : Hid (Cho.waysTo l i (k + 1) = O1) := HE.out.trans (by simp [Cho.addN, hbm])
          go_wp2_with fail
          refine (ramong_yes b _ O1 _ LR.out.rowU (by omega) hbm).mono ?_
          rintro e wz ⟨rfl, rfl⟩
          go_wp2_with fail
          refine ⟨⟨k + 1, hlt, by go_num, ?_⟩, by simp [intOf]; omega⟩
          rw [HS.out]; exact LR
        · have HS : Hid (Cho.waysTo l i (k + 1) = O1 ++ [b]) := HE.out.trans (by simp [Cho.addN, hbm])
          go_wp2_with fail
          refine (ramong_no b _ O1 _ LR.out.rowU (by omega) hbm).mono ?_
          rintro e wz ⟨rfl, rfl⟩
          have F11 : Hid (O1.length + 1 ≤ maxLen) := by show O1.length + 1 ≤ maxLen; unfold maxLen; omega
          have F21 : Hid ((O1.length + 1) * 8 ≤ 140737488355328) := by show (O1.length + 1) * 8 ≤ 140737488355328; omega
          have F31 : Hid (w.heap.size ≤ (wz.alloc (.cells #[.int .u64 b] 31)).heap.size) := by show w.heap.size ≤ (wz.alloc (.cells #[.int .u64 b] 31)).heap.size; have := LR.out.bel.size; simp; omega
          have O51 : Hid ((wz.alloc (.cells #[.int .u64 b] 31)).ownsRow w.heap.size 31 1 (.slice ao O1.length cap) O1.length (uv O1)) := LR.out.row.alloc _
          go_wp2_with (at_builtin; refine wpList_append_own _ rfl _ _ 127 rfl w.heap.size 31 i0 _ 1 8 Tryz.underlying127 hi0 hz0 hz1 hz2 rfl (Nat.succ_pos 0) (.slice ao O1.length cap) O1.length (uv O1) ?e1 O51.out ⟨wz.heap.size, 0, none⟩ 1 1 [.int .u64 b] ?e2 rfl (new_cells wz [.int .u64 b] _) ?e3 F11.out F21.out F31.out ?_; (case e1 => rfl); (case e2 => rfl); (case e3 => simp [Value.oneCell']); intro v' wy hown hgrow _; have OW1 : Hid (Loc w wy v' (O1 ++ [_])) := loc_append LR.out hown hgrow; clear hgrow hown)
          refine ⟨⟨k + 1, hlt, by go_num, ?_⟩, by simp [intOf]; omega⟩
          rw [HS.out]; exact OW1
      · have HAM : Hid (a ∉ O0) := ham
        go_wp2_with fail
        refine (ramong_no a _ O0 _ LR.out.rowU (by omega) HAM.out).mono ?_
        rintro e w3 ⟨rfl, rfl⟩
        have F10 : Hid (O0.length + 1 ≤ maxLen) := by show O0.length + 1 ≤ maxLen; unfold maxLen; omega
        have F20 : Hid ((O0.length + 1) * 8 ≤ 140737488355328) := by show (O0.length + 1) * 8 ≤ 140737488355328; omega
        have F30 : Hid (w.heap.size ≤ (w3.alloc (.cells #[.int .u64 a] 31)).heap.size) := by show w.heap.size ≤ (w3.alloc (.cells #[.int .u64 a] 31)).heap.size; have := LR.out.bel.size; simp; omega
        have O50 : Hid ((w3.alloc (.cells #[.int .u64 a] 31)).ownsRow w.heap.size 31 1 (.slice ao O0.length cap) O0.length (uv O0)) := LR.out.row.alloc _
        go_wp2_with (at_builtin; refine wpList_append_own _ rfl _ _ 127 rfl w.heap.size 31 i0 _ 1 8 Tryz.underlying127 hi0 hz0 hz1 hz2 rfl (Nat.succ_pos 0) (.slice ao O0.length cap) O0.length (uv O0) ?e1 O50.out ⟨w3.heap.size, 0, none⟩ 1 1 [.int .u64 a] ?e2 rfl (new_cells w3 [.int .u64 a] _) ?e3 F10.out F20.out F30.out ?_; (case e1 => rfl); (case e2 => rfl); (case e3 => simp [Value.oneCell']); intro v' w4 hown hgrow _; have OW0 : Hid (Loc w w4 v' (O0 ++ [_])) := loc_append LR.out hown hgrow; clear hgrow hown)
        have HE : Hid (Cho.waysTo l i (k + 1) = Cho.addN (O0 ++ [a]) b) := HE0.out.trans (by rw [show Cho.addN O0 a = O0 ++ [a] from by simp [Cho.addN, ham]])
        have hlen1 : (O0 ++ [a]).length ≤ 2 * k + 1 := by simp; omega
        generalize hO1 : O0 ++ [a] = O1 at *
        clear hO1
        obtain ⟨ao1, cap1, rfl⟩ := owns_slice OW0.out.row
        by_cases hbm : b ∈ O1
        · have HS : Hid (Cho.waysTo l i (k + 1) = O1) := HE.out.trans (by simp [Cho.addN, hbm])
          go_wp2_with fail
          refine (ramong_yes b _ O1 _ OW0.out.rowU (by omega) hbm).mono ?_
          rintro e wz ⟨rfl, rfl⟩
          go_wp2_with fail
          refine ⟨⟨k + 1, hlt, by go_num, ?_⟩, by simp [intOf]; omega⟩
          rw [HS.out]; exact OW0
        · have HS : Hid (Cho.waysTo l i (k + 1) = O1 ++ [b]) := HE.out.trans (by simp [Cho.addN, hbm])
          go_wp2_with fail
          refine (ramong_no b _ O1 _ OW0.out.rowU (by omega) hbm).mono ?_
          rintro e wz ⟨rfl, rfl⟩
          have F11 : Hid (O1.length + 1 ≤ maxLen) := by show O1.length + 1 ≤ maxLen; unfold maxLen; omega
          have F21 : Hid ((O1.length + 1) * 8 ≤ 140737488355328) := by show (O1.length + 1) * 8 ≤ 140737488355328; omega
          have F31 : Hid (w.heap.size ≤ (wz.alloc (.cells #[.int .u64 b] 31)).heap.size) := by show w.heap.size ≤ (wz.alloc (.cells #[.int .u64 b] 31)).heap.size; have := OW0.out.bel.size; simp; omega
          have O51 : Hid ((wz.alloc (.cells #[.int .u64 b] 31)).ownsRow w.heap.size 31 1 (.slice ao1 O1.length cap1) O1.length (uv O1)) := OW0.out.row.alloc _
          go_wp2_with (at_builtin; refine wpList_append_own _ rfl _ _ 127 rfl w.heap.size 31 i0 _ 1 8 Tryz.underlying127 hi0 hz0 hz1 hz2 rfl (Nat.succ_pos 0) (.slice ao1 O1.length cap1) O1.length (uv O1) ?e1 O51.out ⟨wz.heap.size, 0, none⟩ 1 1 [.int .u64 b] ?e2 rfl (new_cells wz [.int .u64 b] _) ?e3 F11.out F21.out F31.out ?_; (case e1 => rfl); (case e2 => rfl); (case e3 => simp [Value.oneCell']); intro v' wy hown hgrow _; have OW1 : Hid (Loc w wy v' (O1 ++ [_])) := loc_append OW0.out hown hgrow; clear hgrow hown)
          refine ⟨⟨k + 1, hlt, by go_num, ?_⟩, by simp [intOf]; omega⟩
          rw [HS.out]; exact OW1
    · have HEnd : Hid (k = l.length) := by show k = l.length; omega
      go_wp2_with fail
      go_ret
      refine ⟨_, rfl, ?_⟩
      rw [← HEnd.out]; exact LR.out
end Go.Proofs.YthoodkbdpnffdaaGreatDoor
