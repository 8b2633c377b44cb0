/-
  Own work: 'Read' answers true, whatever its arguments (a walk over the contracts of the calls).
-/
import Derived.Test.YthoodkbdpnffdabDoorTxtG
namespace Go.Proofs.YthoodkbdpnffdabDoor
open Go.RowKit
open Cho (U64 Tab full col Nd Red Txt itm rend tb dgt lnk Says readT readT_says textOf nodesOf linkOf itemsOf)

/-! The text of one variable. -/
def oneT : List UInt8 := [48, 110, 44, 121, 59]
theorem one_txt {n : Nat} (h1 : 1 ≤ n) : Txt n [(0, 0, 1)] := by
  refine ⟨fun k hk => ?_, fun k hk => ?_, fun k hk => ?_⟩
  · obtain rfl : k = 0 := by simpa using hk
    simp; omega
  · obtain rfl : k = 0 := by simpa using hk
    refine ⟨by simp, fun j _ e => ?_⟩
    simp at e
  · obtain rfl : k = 0 := by simpa using hk
    refine ⟨by simp, fun j _ e => ?_⟩
    simp at e
theorem one_says {n : Nat} (h1 : 1 ≤ n) (h6 : n ≤ 6) : Says n oneT (col 0 &&& full n) := by
  refine .inr (.inr ⟨[(0, 0, 1)], one_txt h1, by simp, by rfl, ?_⟩)
  have e : Cho.ev [((0, 0, 1) : Nd)] 2 = fun p => p.testBit 0 := by
    funext p
    have := Cho.ev_node (ns := [((0, 0, 1) : Nd)]) (one_txt h1).wf p (k := 0) (by simp)
    rw [show (2 : Nat) = 0 + 2 from rfl, this]
    simp [Cho.ev_small]
  show _ = Cho.bld (Cho.ev [(0, 0, 1)] 2) (2 ^ n)
  rw [e, Cho.bld_var h6 (by omega)]
theorem one_read {n : Nat} (h1 : 1 ≤ n) (h6 : n ≤ 6) : readT n oneT = some (col 0 &&& full n) := Cho.readT_some h6 (by decide) (one_says h1 h6)
theorem one_ne {n : Nat} (h1 : 1 ≤ n) (h6 : n ≤ 6) : col 0 &&& full n ≠ 0 ∧ col 0 &&& full n ≠ full n := by
  have hb : ∀ p, p < 2 ^ n → (col 0 &&& full n).testBit p = p.testBit 0 := fun p hp => by
    rw [← Cho.bld_var h6 (by omega), Cho.bld_testBit]; simp [hp]
  have h2 : 2 ≤ 2 ^ n := by
    have := Nat.pow_le_pow_right (n := 2) (by decide) h1
    simpa using this
  constructor
  · intro e
    have := hb 1 (by omega)
    rw [e] at this; simp at this
  · intro e
    have := hb 0 (by omega)
    rw [e, Cho.full_testBit] at this; simp at this
theorem one_nodes {n : Nat} (h1 : 1 ≤ n) (h6 : n ≤ 6) : (nodesOf n (col 0 &&& full n)).length = 1 := by
  have hs := one_says h1 h6
  have hf := Cho.text_few h1 h6 hs
  obtain ⟨h0, hfu⟩ := one_ne h1 h6
  obtain ⟨hne, _⟩ := Cho.link_last h6 hs.tab h0 hfu
  have hx := (Cho.red_txt (Cho.nodes_blt h6 hs.tab).red)
  have hi := Cho.rend_items (nodesOf n (col 0 &&& full n)) (hx.ten h6)
  have ht : textOf n (col 0 &&& full n) = rend (nodesOf n (col 0 &&& full n)) := by unfold textOf; rw [if_neg h0, if_neg hfu]
  unfold itemsOf at hf
  rw [ht, hi] at hf
  have : (oneT.count 59 : Nat) = 1 := by decide
  have := List.length_pos_iff.2 hne
  omega
theorem build_there {n t : Nat} (h1 : 1 ≤ n) (h6 : n ≤ 6) (ht : Tab n t) : Cho.build (List.range n) t (nodesOf n t) = (nodesOf n t, linkOf n t) := by
  have hb := Cho.nodes_blt h6 ht
  have e : List.range n = List.range' 0 (n - 0) := by rw [List.range_eq_range', Nat.sub_zero]
  have := Cho.sup_there (k := 0) h1 h6 (Nat.zero_le _) (Cho.low0 n t) hb.red hb.lt hb.tb
  rw [e]; exact this
theorem used_var {n : Nat} (h1 : 1 ≤ n) (h6 : n ≤ 6) : ((((St.empty n 4000).added (col 0 &&& full n)).added (col 0 &&& full n)).added (col 0 &&& full n)).ns.length = 1 := by
  have ht : Tab n (col 0 &&& full n) := (one_says h1 h6).tab
  have e1 : ((St.empty n 4000).added (col 0 &&& full n)).ns = nodesOf n (col 0 &&& full n) := by
    show (Cho.build (List.range n) (col 0 &&& full n) []).1 = _
    rw [build_range]
  have e2 : (((St.empty n 4000).added (col 0 &&& full n)).added (col 0 &&& full n)).ns = nodesOf n (col 0 &&& full n) := by
    show (Cho.build (List.range n) (col 0 &&& full n) ((St.empty n 4000).added (col 0 &&& full n)).ns).1 = _
    rw [e1, build_there h1 h6 ht]
  show (Cho.build (List.range n) (col 0 &&& full n) (((St.empty n 4000).added (col 0 &&& full n)).added (col 0 &&& full n)).ns).1.length = 1
  rw [e2, build_there h1 h6 ht]
  exact one_nodes h1 h6

set_option maxRecDepth 100000 in
set_option maxHeartbeats 400000 in
theorem items_calls (bs : List UInt8) (w : World) (hl : bs.length ≤ 9223372036854775807) :
    Calls Tryd.prog 11 #[txt bs] w fun e w' => e = .returned (.int .i64 (itemsOf bs : Nat)) ∧ w' = w := by
  unfold txt
  have hsz : (ByteArray.mk bs.toArray).size = bs.length := txt_size bs
  go_enter Tryd.func11, Tryd.ntmps11
  go_wp2_with fail
  go_loopw [3, 4] (fun x3 x4 wr => ∃ (i c : Nat), i ≤ bs.length ∧ c ≤ i ∧ x3 = .int .i64 (c : Nat) ∧ x4 = .int .i64 (i : Nat) ∧ Hid (c = (bs.take i).count 59) ∧ wr = w) (fun _ x4 _ => bs.length - (intOf x4).toNat)
  case atStart => exact ⟨0, 0, Nat.zero_le _, Nat.le_refl _, rfl, rfl, rfl, rfl⟩
  case round =>
    obtain ⟨i, c, hi, hci, rfl, rfl, HC, rfl⟩ := hrel
    by_cases hlt : i < bs.length
    · have hbx : (ByteArray.mk bs.toArray)[i]'(by rw [hsz]; exact hlt) = bs[i] := by simp [ByteArray.getElem_eq_getElem_data]
      have HN : Hid ((bs.take (i + 1)).count 59 = (bs.take i).count 59 + (if bs[i] = 59 then 1 else 0)) := by
        show (bs.take (i + 1)).count 59 = _
        rw [List.take_succ_eq_append_getElem hlt, List.count_append, List.count_singleton]
        simp
      by_cases hc : bs[i] = 59
      · have HE : Hid (c + 1 = (bs.take (i + 1)).count 59) := by show c + 1 = _; rw [HN.out, if_pos hc, HC.out]
        have hx : (bs[i]).toNat = 59 := by rw [hc]; rfl
        clear hc
        generalize bs[i] = x at *
        go_wp2_with fail
        exact ⟨⟨i + 1, c + 1, hlt, by omega, by go_num, by go_num, HE, trivial⟩, by simp [intOf]; omega⟩
      · have HE : Hid (c = (bs.take (i + 1)).count 59) := by show c = _; rw [HN.out, if_neg hc, HC.out]; rfl
        have hx : (((bs[i]).toNat : Int) == 59) = false := by
          rw [beq_eq_false_iff_ne]
          intro e
          exact hc (UInt8.toNat_inj.1 (by show bs[i].toNat = 59; omega))
        clear hc
        generalize bs[i] = x at *
        go_wp2_with fail
        exact ⟨⟨i + 1, c, hlt, by omega, rfl, by go_num, HE, trivial⟩, by simp [intOf]; omega⟩
    · obtain rfl : i = bs.length := by omega
      have HE : Hid (c = itemsOf bs) := by show c = itemsOf bs; rw [HC.out, List.take_length]; rfl
      go_wp2_with fail
      go_ret
      exact ⟨ret_int (by rw [HE.out]), rfl⟩

set_option maxRecDepth 100000 in
set_option maxHeartbeats 4000000 in
theorem read_walk (raw : Int) (bs : List UInt8) (w : World) (hc : Cols w) (h1 : -9223372036854775808 ≤ raw) (h2 : raw ≤ 9223372036854775807) (hl : bs.length ≤ 9223372036854775807) :
    Calls Tryd.prog 3 #[.int .i64 raw, txt bs] w fun e w' => e = .returned (.bool true) ∧ Below w.heap.size w w' := by
  have HC : Hid (Cols w) := hc
  clear hc
  unfold txt
  go_enter Tryd.func3, Tryd.ntmps3
  go_wp2_with fail
  refine (vars_calls raw _ h1 h2).mono ?_
  rintro e w1 ⟨⟨n, hn1, hn6, rfl⟩, rfl⟩
  go_wp2_with fail
  refine (gv_store (w0 := w1) n (Below.refl _ _) hn1 hn6 HC.out).mono ?_
  rintro e w2 ⟨s, rfl, g2, hs2, b2⟩
  have HU : Hid (((((St.empty n 4000).added (col 0 &&& full n)).added (col 0 &&& full n)).added (col 0 &&& full n)).ns.length = 1) := used_var hn1 hn6
  have KI : Hid (Calls Tryd.prog 6 #[.pointer (some ⟨s, 0, none⟩), .string ⟨#[48, 110, 44, 121, 59]⟩] w2 fun e w' => e = .returned (.tuple #[.int .u32 1, .int .i64 0]) ∧ Gv w1 w' s n ((St.empty n 4000).added (col 0 &&& full n)) [(1, col 0 &&& full n)] ∧ w2.grownBy w' (some s)) := gv_import g2 (by decide) (one_read hn1 hn6) (by simp) (by simp [St.empty])
  have KV : Hid (∀ W, Gv w1 W s n ((St.empty n 4000).added (col 0 &&& full n)) [(1, col 0 &&& full n)] → Calls Tryd.prog 7 #[.pointer (some ⟨s, 0, none⟩), .int .i64 0] W fun e w' => e = .returned (.tuple #[.int .u32 2, .int .i64 0]) ∧ Gv w1 w' s n (((St.empty n 4000).added (col 0 &&& full n)).added (col 0 &&& full n)) [(1, col 0 &&& full n), (2, col 0 &&& full n)] ∧ W.grownBy w' (some s)) := fun W hW => gv_var (i := 0) hW (by omega) (by simp) (by simp [St.empty, St.added])
  have KZ : Hid (∀ W, Gv w1 W s n (((St.empty n 4000).added (col 0 &&& full n)).added (col 0 &&& full n)) [(1, col 0 &&& full n), (2, col 0 &&& full n)] → Calls Tryd.prog 7 #[.pointer (some ⟨s, 0, none⟩), .int .i64 0] W fun e w' => e = .returned (.tuple #[.int .u32 3, .int .i64 0]) ∧ Gv w1 w' s n ((((St.empty n 4000).added (col 0 &&& full n)).added (col 0 &&& full n)).added (col 0 &&& full n)) [(1, col 0 &&& full n), (2, col 0 &&& full n), (3, col 0 &&& full n)] ∧ W.grownBy w' (some s)) := fun W hW => gv_var (i := 0) hW (by omega) (by simp) (by simp [St.empty, St.added])
  have HG2 : Hid ((((St.empty n 4000).added (col 0 &&& full n)).added (col 0 &&& full n)).given = 2) := rfl
  clear g2 b2
  generalize (St.empty n 4000).added (col 0 &&& full n) = st1 at *
  generalize st1.added (col 0 &&& full n) = st2 at *
  generalize st2.added (col 0 &&& full n) = st3 at *
  generalize col 0 &&& full n = F at *
  go_wp2_with fail
  refine KI.out.mono ?_
  rintro e w3 ⟨rfl, g3, -⟩
  have G3 : Hid _ := g3
  clear g3 KI
  go_wp2_with fail
  refine (KV.out _ G3.out).mono ?_
  rintro e w4 ⟨rfl, g4, -⟩
  have KS : Hid (Calls Tryd.prog 8 #[.pointer (some ⟨s, 0, none⟩), .int .u32 1, .int .u32 2] w4 fun e w' => e = .returned (.tuple #[.bool true, .int .i64 0]) ∧ w' = w4) := by
    have := gv_same (a := 1) (b := 2) (f := F) (g := F) g4 (by simp) (by simp)
    rw [show decide (F = F) = true from by simp] at this
    exact this
  have G4 : Hid _ := g4
  clear g4 G3 KV
  go_wp2_with fail
  refine KS.out.mono ?_
  rintro e w5 ⟨rfl, rfl⟩
  clear KS
  cases hr : readT n bs with
  | none =>
    have KR : Hid (Calls Tryd.prog 6 #[.pointer (some ⟨s, 0, none⟩), .string ⟨bs.toArray⟩] w5 fun e w' => e = .returned (.tuple #[.int .u32 0, .int .i64 6]) ∧ Below w5.heap.size w5 w') := gv_refuse G4.out hl hr (by simp)
    clear hr
    go_wp2_with fail
    refine KR.out.mono ?_
    rintro e w6 ⟨rfl, b6⟩
    have G6 : Hid _ := G4.out.below b6
    clear b6 KR G4
    go_wp2_with fail
    refine (KZ.out _ G6.out).mono ?_
    rintro e w7 ⟨rfl, g7, -⟩
    have KU : Hid (Calls Tryd.prog 9 #[.pointer (some ⟨s, 0, none⟩)] w7 fun e w' => e = .returned (.int .i64 1) ∧ w' = w7) := by
      have := used_calls s st3 w7 g7.has.lies
      rw [HU.out] at this
      exact this
    have G7 : Hid _ := g7
    clear g7 G6 KZ
    go_wp2_with fail
    refine KU.out.mono ?_
    rintro e w8 ⟨rfl, rfl⟩
    go_wp2_with fail
    go_ret
    exact ⟨rfl, G7.out.bel⟩
  | some f =>
    have KR : Hid (Calls Tryd.prog 6 #[.pointer (some ⟨s, 0, none⟩), .string ⟨bs.toArray⟩] w5 fun e w' => e = .returned (.tuple #[.int .u32 3, .int .i64 0]) ∧ Gv w1 w' s n (st2.added f) [(1, F), (2, F), (3, f)] ∧ w5.grownBy w' (some s)) := by
      have := gv_import G4.out hl hr (by simp) (by rw [HG2.out]; omega)
      rw [HG2.out] at this
      exact this
    obtain ⟨hsay, _⟩ := readT_says hr
    have ht := hsay.tab
    have HF : Hid (itemsOf (textOf n f) ≤ itemsOf bs) := Cho.text_few hn1 hn6 hsay
    have HX2 : Hid ((textOf n f).length ≤ 441) := Cho.text_short hn6 ht
    have HRN : Hid (readT n (textOf n f) = some f) := read_text hn6 ht
    have hi1 : itemsOf bs ≤ 9223372036854775807 := Nat.le_trans List.count_le_length hl
    have hG : (st2.added f).given = 3 := by show st2.given + 1 = 3; rw [HG2.out]
    have KIB : Hid (∀ W, Calls Tryd.prog 11 #[.string ⟨bs.toArray⟩] W fun e w' => e = .returned (.int .i64 (itemsOf bs : Nat)) ∧ w' = W) := fun W => items_calls bs W hl
    have KIX : Hid (∀ W, Calls Tryd.prog 11 #[.string ⟨(textOf n f).toArray⟩] W fun e w' => e = .returned (.int .i64 (itemsOf (textOf n f) : Nat)) ∧ w' = W) := fun W => items_calls (textOf n f) W (by have := HX2.out; omega)
    clear hr hsay ht KZ HU
    go_wp2_with fail
    refine KR.out.mono ?_
    rintro e w6 ⟨rfl, g6, -⟩
    have KE : Hid (Calls Tryd.prog 10 #[.pointer (some ⟨s, 0, none⟩), .int .u32 3] w6 fun e w' => e = .returned (.tuple #[.string ⟨(textOf n f).toArray⟩, .int .i64 0]) ∧ Below w6.heap.size w6 w') := gv_export (a := 3) (f := f) g6 (by simp)
    have G6 : Hid _ := g6
    clear g6 KR G4
    go_wp2_with fail
    refine KE.out.mono ?_
    rintro e w7 ⟨rfl, b7⟩
    have g7 := G6.out.below b7
    have KI : Hid (Calls Tryd.prog 6 #[.pointer (some ⟨s, 0, none⟩), .string ⟨(textOf n f).toArray⟩] w7 fun e w' => e = .returned (.tuple #[.int .u32 4, .int .i64 0]) ∧ Gv w1 w' s n ((st2.added f).added f) [(1, F), (2, F), (3, f), (4, f)] ∧ w7.grownBy w' (some s)) := by
      have := gv_import g7 (by have := HX2.out; omega) HRN.out (by simp) (by rw [hG]; omega)
      rw [hG] at this
      exact this
    clear g7 b7 G6 KE
    go_wp2_with fail
    refine KI.out.mono ?_
    rintro e w8 ⟨rfl, g8, -⟩
    have KE : Hid (Calls Tryd.prog 10 #[.pointer (some ⟨s, 0, none⟩), .int .u32 4] w8 fun e w' => e = .returned (.tuple #[.string ⟨(textOf n f).toArray⟩, .int .i64 0]) ∧ Below w8.heap.size w8 w') := gv_export (a := 4) (f := f) g8 (by simp)
    have G8 : Hid _ := g8
    clear g8 KI
    have hxx : (textOf n f == textOf n f) = true := by simp
    have hle := HF.out
    generalize hT1 : itemsOf (textOf n f) = c1 at *
    generalize itemsOf bs = c2 at *
    generalize textOf n f = X at *
    clear hT1
    go_wp2_with fail
    refine (KIX.out _).mono ?_
    rintro e w9 ⟨rfl, rfl⟩
    go_wp2_with fail
    refine (KIB.out _).mono ?_
    rintro e w9 ⟨rfl, rfl⟩
    have hgt : ¬ (c2 : Int) < (c1 : Int) := by omega
    go_wp2_with fail
    refine KE.out.mono ?_
    rintro e w10 ⟨rfl, b10⟩
    have g10 := G8.out.below b10
    have KS : Hid (Calls Tryd.prog 8 #[.pointer (some ⟨s, 0, none⟩), .int .u32 3, .int .u32 4] w10 fun e w' => e = .returned (.tuple #[.bool true, .int .i64 0]) ∧ w' = w10) := by
      have := gv_same (a := 3) (b := 4) (f := f) (g := f) g10 (by simp) (by simp)
      rw [show decide (f = f) = true from by simp] at this
      exact this
    have G10 : Hid _ := g10
    clear g10 b10 G8 KE
    go_wp2_with fail
    refine KS.out.mono ?_
    rintro e w11 ⟨rfl, rfl⟩
    go_wp2_with fail
    go_ret
    exact ⟨rfl, G10.out.bel⟩
end Go.Proofs.YthoodkbdpnffdabDoor
