/-
  Own work: the program's reader of texts: items (a walk).
-/
import Derived.Test.YthoodkbdpnffdabDoorTxtN
namespace Go.Proofs.YthoodkbdpnffdabDoor
open Go.RowKit
open Cho (U64 Tab full col decL dgt Nd Red lnk tb itm rend Txt Says isD NumAt)

/-- The reader's row with one item more. -/
theorem Rdr.more {w w1 : World} {r n k : Nat} {bs : List UInt8} {v v' : Value} {ns : List Nd} {x : Nd} {o : Obj} (h : Rdr w r bs n k v ns) (hw : Cho.Wf ns) (hg : (w.alloc o).grownBy w1 v.ownBlock)
    (hr : w1.ownsRow (r + 1) 69 2 v' (ns.length + 1) (itv n ns ++ [.int .i64 (x.1 : Nat), .int .u64 (tb n (ns ++ [x]) (ns.length + 2) : Nat)])) :
    w1.heap[r]? = some (.cells #[.string ⟨bs.toArray⟩, .int .i64 (k : Nat), .int .i64 (n : Nat), v] 66 (0, 0)) ∧
    Rdr (w1.setCell ⟨r, 3, none⟩ v') r bs n k v' (ns ++ [x]) ∧ Below r w (w1.setCell ⟨r, 3, none⟩ v') := by
  have hlt := h.lt
  have hne : some r ≠ v.ownBlock := fun e => by have := (h.row.lt _ e.symm).1; omega
  have hb := (hg.block r (by simp; omega) hne).trans ((Below.heap_alloc _ _ _ hlt).trans h.blk)
  refine ⟨hb, ⟨?_, ?_⟩, ?_⟩
  · simp only [World.setCell, Array.getElem?_modify, hb]; simp
  · rw [itv_snoc hw, List.length_append, List.length_singleton]
    exact owns_kept hr fun g hgb => block_set_other (by have := (hr.lt g hgb).1; simp; omega)
  · exact Below.setCell (p := ⟨r, 3, none⟩) ((((Below.refl r w).alloc (by omega) o)).grown hg (by simp; omega) (fun q hq => by have := (h.row.lt q hq).1; omega)) (Nat.le_refl r) v'

set_option maxRecDepth 100000 in
set_option maxHeartbeats 4000000 in
/-- 'readItem' reads an item with the sign behind it, or it finds that there is none that may be. -/
theorem item_walk (r n k : Nat) (bs : List UInt8) (v : Value) (ns : List Nd) (w : World) (h : Rdr w r bs n k v ns) (hl : bs.length ≤ 2000) (hns : ns.length ≤ 400) (hn : n ≤ 6) (htx : Txt n ns) (hc : Cols w) (hr0 : 0 < r) :
    Calls Tryd.prog 25 #[.pointer (some ⟨r, 0, none⟩)] w fun e w' => ∃ (ok : Bool) (k' : Nat) (v' : Value) (ms : List Nd), e = .returned (.bool ok) ∧ ItemAt n bs ns k ok k' ms ∧ (ok = true → Rdr w' r bs n k' v' ms) ∧ Below r w w' := by
  obtain ⟨i0, hi0, hz0, hz1, hz2⟩ := info_parts Tryd.infoTItem
  have H : Hid (Rdr w r bs n k v ns) := h
  have HC : Hid (Cols w) := hc
  have HTX : Hid (Txt n ns) := htx
  have HLK : Hid (∀ j x W, Rdr W r bs n j v ns → j ≤ bs.length → x < n → Calls Tryd.prog 33 #[.pointer (some ⟨r, 0, none⟩), .int .i64 (x : Nat)] W fun e w' => ∃ (t : Nat) (ok : Bool) (k' : Nat), e = .returned (.tuple #[.int .u64 (t : Nat), .bool ok]) ∧ LinkAt n bs ns x j t ok k' ∧ Rdr w' r bs n k' v ns ∧ Below r W w') :=
    fun j x W hW hj hx => link_walk r n j x bs v ns W hW hj hl hns hn hx
  have HS1 : Hid (∀ j (c : UInt8) W, Rdr W r bs n j v ns → bs[j]? = some c → Calls Tryd.prog 34 #[.pointer (some ⟨r, 0, none⟩), .int .u8 (c.toNat : Nat)] W fun e w' => e = .returned (.bool true) ∧ Rdr w' r bs n (j + 1) v ns ∧ Below r W w') :=
    fun j c W hW hd => sign_yes r n j c bs v ns W hW hl hd
  have HS0 : Hid (∀ j (c : UInt8) W, Rdr W r bs n j v ns → bs[j]? ≠ some c → Calls Tryd.prog 34 #[.pointer (some ⟨r, 0, none⟩), .int .u8 (c.toNat : Nat)] W fun e w' => e = .returned (.bool false) ∧ Rdr w' r bs n j v ns ∧ Below r W w') :=
    fun j c W hW hd => sign_no r n j c bs v ns W hW hd
  obtain ⟨ao, cap, rfl⟩ := h.slice
  clear h hc htx
  by_cases hd : ∃ d, d < 10 ∧ bs[k]? = some (dgt d)
  · obtain ⟨d, h10, hd⟩ := hd
    have KD : Hid (Calls Tryd.prog 32 #[.pointer (some ⟨r, 0, none⟩)] w fun e w' => e = .returned (.int .i64 (d : Nat)) ∧ Rdr w' r bs n (k + 1) (.slice ao ns.length cap) ns ∧ Below r w w') := digit_yes r n k d bs _ ns w H.out hl hd h10
    have HD : Hid (bs[k]? = some (dgt d)) := hd
    have hk1 : k + 1 ≤ bs.length := (List.getElem?_eq_some_iff.1 hd).1
    clear hd
    go_enter Tryd.func25, Tryd.ntmps25
    go_wp2_with fail
    refine KD.out.mono ?_
    rintro e w1 ⟨rfl, r1, b1⟩
    have c2 : w1.cell? ⟨r, 2, none⟩ = some (.int .i64 (n : Nat)) := cell_of_block r1.blk 2
    have hlt1 := r1.lt
    have R1 : Hid _ := r1
    have B1 : Hid _ := b1
    clear r1 b1 KD
    have g0 : decide ((d : Int) < 0) = false := by simp
    by_cases hdn : d < n
    · have g1 : decide ((n : Int) ≤ (d : Int)) = false := by simp; omega
      go_wp2_with fail
      refine (HLK.out (k + 1) d _ R1.out hk1 hdn).mono ?_
      rintro e w2 ⟨t, ok, k2, rfl, l2, r2, b2⟩
      have L2 : Hid _ := l2
      have R2 : Hid _ := r2
      have B2 : Hid (Below r w w2) := low_trans B1.out b2
      have hk2 := l2.le
      have ht := l2.tab
      clear l2 r2 b2 R1 B1
      cases ok with
      | false =>
        have HE : Hid (ItemAt n bs ns k false 0 ns) := item_no1 hn hdn HD.out L2.out
        go_wp2_with fail
        go_ret
        exact ⟨false, 0, .slice ao ns.length cap, ns, rfl, HE.out, fun h => absurd h (by decide), B2.out⟩
      | true =>
        by_cases hs : bs[k2]? = some 44
        · have KS : Hid (Calls Tryd.prog 34 #[.pointer (some ⟨r, 0, none⟩), .int .u8 44] w2 fun e w' => e = .returned (.bool true) ∧ Rdr w' r bs n (k2 + 1) (.slice ao ns.length cap) ns ∧ Below r w2 w') := HS1.out k2 44 w2 R2.out hs
          have HS : Hid (bs[k2]? = some 44) := hs
          have hk3 : k2 + 1 ≤ bs.length := (List.getElem?_eq_some_iff.1 hs).1
          clear hs
          go_wp2_with fail
          refine KS.out.mono ?_
          rintro e w3 ⟨rfl, r3, b3⟩
          have R3 : Hid _ := r3
          have B3 : Hid (Below r w w3) := low_trans B2.out b3
          clear r3 b3 R2 B2 KS
          go_wp2_with fail
          refine (HLK.out (k2 + 1) d _ R3.out hk3 hdn).mono ?_
          rintro e w4 ⟨u, ok, k4, rfl, l4, r4, b4⟩
          have L4 : Hid _ := l4
          have R4 : Hid _ := r4
          have B4 : Hid (Below r w w4) := low_trans B3.out b4
          have hu := l4.tab
          clear l4 r4 b4 R3 B3
          cases ok with
          | false =>
            have HE : Hid (ItemAt n bs ns k false 0 ns) := item_no3 hn hdn HD.out L2.out L4.out
            go_wp2_with fail
            go_ret
            exact ⟨false, 0, .slice ao ns.length cap, ns, rfl, HE.out, fun h => absurd h (by decide), B4.out⟩
          | true =>
            by_cases hs : bs[k4]? = some 59
            · have KS : Hid (Calls Tryd.prog 34 #[.pointer (some ⟨r, 0, none⟩), .int .u8 59] w4 fun e w' => e = .returned (.bool true) ∧ Rdr w' r bs n (k4 + 1) (.slice ao ns.length cap) ns ∧ Below r w4 w') := HS1.out k4 59 w4 R4.out hs
              obtain ⟨l0, l1, it, etb⟩ := item_yes HTX.out hdn HD.out L2.out HS.out L4.out hs
              rw [← choose_bld hn hdn ht hu] at etb
              have IT : Hid _ := it
              have ETB : Hid _ := etb
              clear hs it etb
              go_wp2_with fail
              refine KS.out.mono ?_
              rintro e w5 ⟨rfl, r5, b5⟩
              have R5 : Hid _ := r5
              have B5 : Hid (Below r w w5) := low_trans B4.out b5
              have c5 : w5.cell? ⟨r, 2, none⟩ = some (.int .i64 (n : Nat)) := cell_of_block r5.blk 2
              have hlt5 := r5.lt
              have C5 : Hid (Cols w5) := fun i hi => by
                have := b5; exact (HC.out.below B5.out hr0) i hi
              clear r5 b5 R4 B4 KS
              have hU1 : U64 (col d &&& full n) := Cho.and_u64 (Cho.col_u64 d)
              go_wp2_with fail
              refine (variable_calls d n _ C5.out (by omega) hn).mono ?_
              rintro e w6 ⟨rfl, q, hw6⟩
              have b6 : Below w5.heap.size w5 w6 := by rw [hw6]; exact below_drewN (Below.refl _ _) q
              have R6 : Hid (Rdr w6 r bs n (k4 + 1) (.slice ao ns.length cap) ns) := R5.out.below b6
              have B6 : Hid (Below r w w6) := low_trans B5.out (b6.mono (Nat.le_of_lt hlt5))
              have KC : Hid (Calls Tryd.prog 35 #[.int .u64 ((col d &&& full n : Nat) : Int), .int .u64 (u : Nat), .int .u64 (t : Nat)] w6 fun e w' => e = .returned (.int .u64 (Cho.chooseT (col d &&& full n) u t : Nat)) ∧ w' = w6) := choose_calls _ u t w6 hU1 (hu.u64 hn) (ht.u64 hn)
              rw [← ETB.out] at KC
              clear hw6 b6 R5 B5 C5 hU1 c5 hlt5 ht hu ETB
              have hTB := ((Cho.tb_tab n (ns ++ [(d, l0, l1)]) (ns.length + 2)).u64 hn).lt
              generalize htt : tb n (ns ++ [(d, l0, l1)]) (ns.length + 2) = tt at *
              have HTT : Hid (tb n (ns ++ [(d, l0, l1)]) (ns.length + 2) = tt) := htt
              clear htt
              generalize ((col d &&& full n : Nat) : Int) = A at *
              go_wp2_with fail
              refine KC.out.mono ?_
              rintro e w7 ⟨rfl, rfl⟩
              have c3 : w7.cell? ⟨r, 3, none⟩ = some (.slice ao ns.length cap) := cell_of_block R6.out.blk 3
              have f3 : w7.frozen? ⟨r, 3, none⟩ = false := frozen_of_block R6.out.blk 3
              have hlt7 := R6.out.lt
              have F1 : Hid (ns.length + 1 ≤ maxLen) := by show ns.length + 1 ≤ maxLen; unfold maxLen; omega
              have F2 : Hid ((ns.length + 1) * 16 ≤ 140737488355328) := by show (ns.length + 1) * 16 ≤ 140737488355328; omega
              have F3 : Hid (r + 1 ≤ (w7.alloc (.cells #[.int .i64 (d : Nat), .int .u64 (tt : Nat)] 69)).heap.size) := by show r + 1 ≤ (w7.alloc (.cells #[.int .i64 (d : Nat), .int .u64 (tt : Nat)] 69)).heap.size; simp; omega
              have O7 : Hid ((w7.alloc (.cells #[.int .i64 (d : Nat), .int .u64 (tt : Nat)] 69)).ownsRow (r + 1) 69 2 (.slice ao ns.length cap) ns.length (itv n ns)) := R6.out.row.alloc _
              have IE : Hid (∀ v' w8, w8.ownsRow (r + 1) 69 2 v' (ns.length + 1) (itv n ns ++ [.int .i64 (d : Nat), .int .u64 (tt : Nat)]) → (w7.alloc (.cells #[.int .i64 (d : Nat), .int .u64 (tt : Nat)] 69)).grownBy w8 (Value.slice ao ns.length cap).ownBlock →
                  w8.cell? ⟨r, 3, none⟩ = some (.slice ao ns.length cap) ∧ w8.frozen? ⟨r, 3, none⟩ = false ∧ Rdr (w8.setCell ⟨r, 3, none⟩ v') r bs n (k4 + 1) v' (ns ++ [(d, l0, l1)]) ∧ Below r w (w8.setCell ⟨r, 3, none⟩ v')) := by
                intro v' w8 ho hg
                have hm := R6.out.more (x := (d, l0, l1)) HTX.out.wf hg (by rw [HTT.out]; exact ho)
                exact ⟨cell_of_block hm.1 3, frozen_of_block hm.1 3, hm.2.1, low_trans B6.out hm.2.2⟩
              go_wp2_with (at_builtin; go_must (refine wpList_append_own _ rfl _ _ 64 rfl (r + 1) 69 i0 _ 2 16 Tryd.underlying64 hi0 hz0 hz1 hz2 rfl (Nat.succ_pos 1) (.slice ao ns.length cap) ns.length (itv n ns) ?e1 O7.out ⟨w7.heap.size, 0, none⟩ 1 1 [.int .i64 (d : Nat), .int .u64 (tt : Nat)] ?e2 rfl (new_cells w7 [.int .i64 (d : Nat), .int .u64 (tt : Nat)] _) ?e3 F1.out F2.out F3.out ?_); (case e1 => rfl); (case e2 => rfl); (case e3 => simp [Value.oneCell']); intro v' w8 hown hgrow _; have HE := IE.out v' w8 hown hgrow; have m0 := HE.1; have mf := HE.2.1; have HW : Hid _ := HE.2.2; obtain ⟨av', cv', rfl⟩ := owns_slice hown; clear HE hown hgrow)
              go_ret
              exact ⟨true, k4 + 1, _, _, rfl, IT.out, fun _ => HW.out.1, HW.out.2⟩
            · have KS : Hid (Calls Tryd.prog 34 #[.pointer (some ⟨r, 0, none⟩), .int .u8 59] w4 fun e w' => e = .returned (.bool false) ∧ Rdr w' r bs n k4 (.slice ao ns.length cap) ns ∧ Below r w4 w') := HS0.out k4 59 w4 R4.out hs
              have HE : Hid (ItemAt n bs ns k false 0 ns) := item_no4 hn hdn HD.out L2.out L4.out hs
              clear hs
              go_wp2_with fail
              refine KS.out.mono ?_
              rintro e w5 ⟨rfl, r5, b5⟩
              go_wp2_with fail
              go_ret
              exact ⟨false, 0, .slice ao ns.length cap, ns, rfl, HE.out, fun h => absurd h (by decide), low_trans B4.out b5⟩
        · have KS : Hid (Calls Tryd.prog 34 #[.pointer (some ⟨r, 0, none⟩), .int .u8 44] w2 fun e w' => e = .returned (.bool false) ∧ Rdr w' r bs n k2 (.slice ao ns.length cap) ns ∧ Below r w2 w') := HS0.out k2 44 w2 R2.out hs
          have HE : Hid (ItemAt n bs ns k false 0 ns) := item_no2 hn hdn HD.out L2.out hs
          clear hs
          go_wp2_with fail
          refine KS.out.mono ?_
          rintro e w3 ⟨rfl, r3, b3⟩
          go_wp2_with fail
          go_ret
          exact ⟨false, 0, .slice ao ns.length cap, ns, rfl, HE.out, fun h => absurd h (by decide), low_trans B2.out b3⟩
    · have g1 : decide ((n : Int) ≤ (d : Int)) = true := by simp; omega
      have HE : Hid (ItemAt n bs ns k false 0 ns) := item_no0 (fun d' hd' hlt => by
        rw [HD.out] at hd'
        have := Cho.dgt_inj h10 (by omega) (Option.some.inj hd')
        omega)
      go_wp2_with fail
      go_ret
      exact ⟨false, 0, .slice ao ns.length cap, ns, rfl, HE.out, fun h => absurd h (by decide), B1.out⟩
  · have hno : ∀ c, bs[k]? = some c → isD c = false := fun c hc => by
      cases hq : isD c with
      | false => rfl
      | true =>
        obtain ⟨d, h1, h2, _⟩ := Cho.isD_of hq
        exact absurd ⟨d, h1, by rw [hc, h2]⟩ hd
    have KD : Hid (Calls Tryd.prog 32 #[.pointer (some ⟨r, 0, none⟩)] w fun e w' => e = .returned (.int .i64 (-1)) ∧ Rdr w' r bs n k (.slice ao ns.length cap) ns ∧ Below r w w') := digit_no r n k bs _ ns w H.out hno
    have HE : Hid (ItemAt n bs ns k false 0 ns) := item_no0 (fun d' hd' hlt => hd ⟨d', by omega, hd'⟩)
    clear hd hno
    go_enter Tryd.func25, Tryd.ntmps25
    go_wp2_with fail
    refine KD.out.mono ?_
    rintro e w1 ⟨rfl, r1, b1⟩
    have c2 : w1.cell? ⟨r, 2, none⟩ = some (.int .i64 (n : Nat)) := cell_of_block r1.blk 2
    have hlt1 := r1.lt
    go_wp2_with fail
    go_ret
    exact ⟨false, 0, .slice ao ns.length cap, ns, rfl, HE.out, fun h => absurd h (by decide), b1⟩
end Go.Proofs.YthoodkbdpnffdabDoor
