/-
  Own work: the program's reader of texts: numbers and links (walks).
-/
import Derived.Test.YthoodkbdpnffdabGreatDoorTxtR
namespace Go.Proofs.YthoodkbdpnffdabGreatDoor
open Go.RowKit
open Cho (U64 Tab full col decL dgt Nd Red lnk tb itm rend Txt Says isD NumAt Reading)

/-- What 'digit' has found at place k. -/
def Nxt (bs : List UInt8) (n r : Nat) (v : Value) (ns : List Nd) (k : Nat) (x : Int) (w : World) : Prop :=
  (x = -1 ∧ (∀ c, bs[k]? = some c → isD c = false) ∧ Rdr w r bs n k v ns) ∨ ∃ d : Nat, d < 10 ∧ x = d ∧ bs[k]? = some (dgt d) ∧ Rdr w r bs n (k + 1) v ns
theorem low_trans {b : Nat} {a w w' : World} (h : Below b a w) (k : Below b w w') : Below b a w' := h.trans k

set_option maxRecDepth 100000 in
set_option maxHeartbeats 1000000 in
/-- 'number' reads a number that is an item's, or it finds that there is none. -/
theorem number_walk (r n k : Nat) (bs : List UInt8) (v : Value) (ns : List Nd) (w : World) (h : Rdr w r bs n k v ns) (hk : k ≤ bs.length) (hl : bs.length ≤ 2000) (hns : ns.length ≤ 400) :
    Calls Tryz.prog 137 #[.pointer (some ⟨r, 0, none⟩)] w fun e w' => ∃ (x : Int) (k' : Nat), e = .returned (.int .i64 x) ∧ NumAt bs ns.length k x k' ∧ Rdr w' r bs n k' v ns ∧ Below r w w' := by
  have HD : Hid (∀ j d W, Rdr W r bs n j v ns → bs[j]? = some (dgt d) → d < 10 → Calls Tryz.prog 132 #[.pointer (some ⟨r, 0, none⟩)] W fun e w' => e = .returned (.int .i64 (d : Nat)) ∧ Rdr w' r bs n (j + 1) v ns ∧ Below r W w') :=
    fun j d W hW hd h10 => digit_yes r n j d bs v ns W hW hl hd h10
  have HN : Hid (∀ j W, Rdr W r bs n j v ns → (∀ c, bs[j]? = some c → isD c = false) → Calls Tryz.prog 132 #[.pointer (some ⟨r, 0, none⟩)] W fun e w' => e = .returned (.int .i64 (-1)) ∧ Rdr w' r bs n j v ns ∧ Below r W w') :=
    fun j W hW hd => digit_no r n j bs v ns W hW hd
  have HX : Hid (∀ j : Nat, (∃ d, d < 10 ∧ bs[j]? = some (dgt d)) ∨ (∀ c, bs[j]? = some c → isD c = false)) := by
    intro j
    cases hb : bs[j]? with
    | none => exact .inr (fun c hc => by cases hc)
    | some c =>
      cases hc : isD c with
      | true =>
        obtain ⟨d, h1, h2, _⟩ := Cho.isD_of hc
        exact .inl ⟨d, h1, by rw [h2]⟩
      | false => exact .inr (fun c' h' => by simp at h'; subst h'; exact hc)
  have HNX : Hid (∀ j W, Rdr W r bs n j v ns → Calls Tryz.prog 132 #[.pointer (some ⟨r, 0, none⟩)] W fun e w' => ∃ x, e = .returned (.int .i64 x) ∧ Nxt bs n r v ns j x w' ∧ Below r W w') := by
    intro j W hW
    rcases HX.out j with ⟨d, h10, hd⟩ | hno
    · exact (HD.out j d W hW hd h10).mono fun e w' ⟨h1, h2, h3⟩ => ⟨d, h1, .inr ⟨d, h10, rfl, hd, h2⟩, h3⟩
    · exact (HN.out j W hW hno).mono fun e w' ⟨h1, h2, h3⟩ => ⟨-1, h1, .inl ⟨rfl, hno, h2⟩, h3⟩
  have H : Hid (Rdr w r bs n k v ns) := h
  obtain ⟨ao, cap, rfl⟩ := h.slice
  clear h
  rcases HX.out k with ⟨d, h10, hd⟩ | hno
  · have HDK : Hid (bs[k]? = some (dgt d)) := hd
    clear hd
    by_cases d0 : d = 0
    · subst d0
      go_enter Tryz.func137, Tryz.ntmps137
      go_wp2_with fail
      refine (HD.out k 0 _ H.out HDK.out h10).mono ?_
      rintro e w1 ⟨rfl, r1, b1⟩
      go_wp2_with fail
      go_ret
      exact ⟨0, k + 1, rfl, Cho.num_zero HDK.out, r1, b1⟩
    · have hd1 : ¬ (d : Int) ≤ 0 := by omega
      have HR0 : Hid (Reading bs k d (k + 1)) := Cho.reading0 HDK.out (by omega) h10
      go_enter Tryz.func137, Tryz.ntmps137
      go_wp2_with fail
      refine (HD.out k d _ H.out HDK.out h10).mono ?_
      rintro e w1 ⟨rfl, r1, b1⟩
      have R1 : Hid _ := r1
      have B1 : Hid _ := b1
      clear r1 b1
      go_wp2_with fail
      refine (HNX.out (k + 1) _ R1.out).mono ?_
      rintro e w2 ⟨x, rfl, nx, b2⟩
      have NX : Hid (Nxt bs n r (.slice ao ns.length cap) ns (k + 1) x w2) := nx
      have B2 : Hid (Below r w w2) := low_trans B1.out b2
      clear nx b2 B1 R1
      go_wp2_with fail
      go_loopw [3, 4] (fun x3 x4 wr => ∃ (j k' : Nat) (x : Int), x3 = .int .i64 (j : Nat) ∧ x4 = .int .i64 x ∧ j ≤ 400 ∧ Hid (Reading bs k j k') ∧ Hid (Nxt bs n r (.slice ao ns.length cap) ns k' x wr) ∧ Hid (Below r w wr)) (fun x3 _ _ => 401 - (intOf x3).toNat)
      case atStart => exact ⟨d, k + 1, x, rfl, rfl, by omega, HR0, NX, B2⟩
      case round =>
        obtain ⟨j, k', x, rfl, rfl, hj, RD, NX, BW⟩ := hrel
        have hjp := RD.out.pos
        rcases NX.out with ⟨rfl, hno, hr⟩ | ⟨d, h10, rfl, hd, hr⟩
        · have HE : Hid (NumAt bs ns.length k j k') := RD.out.done hno
          have HRR : Hid _ := hr
          clear hno hr NX
          go_wp2_with fail
          go_ret
          exact ⟨j, k', rfl, HE.out, HRR.out, BW.out⟩
        · have RD2 : Hid (Reading bs k (j * 10 + d) (k' + 1)) := RD.out.step h10 hd
          have HRR : Hid (Rdr wr r bs n (k' + 1) (.slice ao ns.length cap) ns) := hr
          have c3 : wr.cell? ⟨r, 3, none⟩ = some (.slice ao ns.length cap) := cell_of_block hr.blk 3
          have hlt := hr.lt
          clear hd hr NX RD
          have hd0 : 0 ≤ (d : Int) := by omega
          by_cases hov : ns.length ≤ j * 10 + d
          · have HE : Hid (NumAt bs ns.length k (-1) (k' + 1)) := RD2.out.over hov
            have hov' : (ns.length : Int) ≤ (j : Int) * 10 + (d : Int) := by omega
            go_wp2_with fail
            go_ret
            exact ⟨-1, k' + 1, rfl, HE.out, HRR.out, BW.out⟩
          · have hov' : ¬ (ns.length : Int) ≤ (j : Int) * 10 + (d : Int) := by omega
            go_wp2_with fail
            refine (HNX.out (k' + 1) _ HRR.out).mono ?_
            rintro e w3 ⟨y, rfl, nx, b3⟩
            have NX3 : Hid _ := nx
            have B3 : Hid (Below r w w3) := low_trans BW.out b3
            clear nx b3
            go_wp2_with fail
            exact ⟨⟨j * 10 + d, k' + 1, y, by go_num, rfl, by omega, RD2, NX3, B3⟩, by simp [intOf]; omega⟩
  · go_enter Tryz.func137, Tryz.ntmps137
    go_wp2_with fail
    refine (HN.out k _ H.out hno).mono ?_
    rintro e w1 ⟨rfl, r1, b1⟩
    go_wp2_with fail
    go_ret
    exact ⟨-1, k, rfl, Cho.num_none hno hk, r1, b1⟩

theorem row_item {w : World} {r n k : Nat} {bs : List UInt8} {ns : List Nd} {ao : Option Addr} {cap j : Nat} (h : Rdr w r bs n k (.slice ao ns.length cap) ns) (hj : j < ns.length) :
    ∃ g, ao = some ⟨g, 0, none⟩ ∧ w.cell? ⟨g, j * 2, none⟩ = some (.int .i64 (ns[j].1 : Nat)) ∧ w.cell? ⟨g, j * 2 + 1, none⟩ = some (.int .u64 (tb n ns (j + 2) : Nat)) := by
  obtain ⟨g, cap', e, _⟩ := owns_form h.row (by omega)
  simp only [Value.slice.injEq] at e
  obtain ⟨rfl, _, _⟩ := e
  obtain ⟨e1, e2⟩ := prs_get (fun j => ((Value.int .i64 ((ns.getD j (0, 0, 0)).1 : Nat)), (Value.int .u64 (tb n ns (j + 2) : Nat)))) hj
  have r1 := h.row.cells (g := g) rfl _ _ e1
  have r2 := h.row.cells (g := g) rfl _ _ e2
  rw [Addr.add_mid, Nat.zero_add] at r1 r2
  have eg : ns.getD j (0, 0, 0) = ns[j] := by simp [List.getD, hj]
  simp only [eg] at r1
  exact ⟨g, rfl, r1, r2⟩

set_option maxRecDepth 100000 in
set_option maxHeartbeats 1000000 in
/-- 'link' reads a link that may be, or it finds that there is none. -/
theorem link_walk (r n k x : Nat) (bs : List UInt8) (v : Value) (ns : List Nd) (w : World) (h : Rdr w r bs n k v ns) (hk : k ≤ bs.length) (hl : bs.length ≤ 2000) (hns : ns.length ≤ 400) (hn : n ≤ 6) (hx : x < n) :
    Calls Tryz.prog 133 #[.pointer (some ⟨r, 0, none⟩), .int .i64 (x : Nat)] w fun e w' => ∃ (t : Nat) (ok : Bool) (k' : Nat), e = .returned (.tuple #[.int .u64 (t : Nat), .bool ok]) ∧ LinkAt n bs ns x k t ok k' ∧ Rdr w' r bs n k' v ns ∧ Below r w w' := by
  have H : Hid (Rdr w r bs n k v ns) := h
  by_cases e0 : bs[k]? = some 110
  · have HS : Hid (Calls Tryz.prog 134 #[.pointer (some ⟨r, 0, none⟩), .int .u8 110] w fun e w' => e = .returned (.bool true) ∧ Rdr w' r bs n (k + 1) v ns ∧ Below r w w') := sign_yes r n k 110 bs v ns w h hl e0
    have HE : Hid (LinkAt n bs ns x k 0 true (k + 1)) := link_n hx e0
    clear h e0
    go_enter Tryz.func133, Tryz.ntmps133
    go_wp2_with fail
    refine HS.out.mono ?_
    rintro e w1 ⟨rfl, r1, b1⟩
    go_wp2_with fail
    go_ret2
    exact ⟨0, true, k + 1, rfl, HE.out, r1, b1⟩
  · have HS : Hid (Calls Tryz.prog 134 #[.pointer (some ⟨r, 0, none⟩), .int .u8 110] w fun e w' => e = .returned (.bool false) ∧ Rdr w' r bs n k v ns ∧ Below r w w') := sign_no r n k 110 bs v ns w h e0
    by_cases e1 : bs[k]? = some 121
    · have HY : Hid (∀ W, Rdr W r bs n k v ns → Calls Tryz.prog 134 #[.pointer (some ⟨r, 0, none⟩), .int .u8 121] W fun e w' => e = .returned (.bool true) ∧ Rdr w' r bs n (k + 1) v ns ∧ Below r W w') := fun W hW => sign_yes r n k 121 bs v ns W hW hl e1
      have HE : Hid (LinkAt n bs ns x k (full n) true (k + 1)) := link_y hx e1
      clear h e0 e1
      go_enter Tryz.func133, Tryz.ntmps133
      go_wp2_with fail
      refine HS.out.mono ?_
      rintro e w1 ⟨rfl, r1, b1⟩
      have B1 : Hid _ := b1
      have R1 : Hid _ := r1
      clear b1 r1
      go_wp2_with fail
      refine (HY.out _ R1.out).mono ?_
      rintro e w2 ⟨rfl, r2, b2⟩
      have c2 : w2.cell? ⟨r, 2, none⟩ = some (.int .i64 (n : Nat)) := cell_of_block r2.blk 2
      have hlt := r2.lt
      have B2 : Hid (Below r w w2) := low_trans B1.out b2
      have R2 : Hid _ := r2
      have KF : Hid (∀ W, Calls Tryz.prog 113 #[.int .i64 (n : Nat)] W fun e w' => e = .returned (.int .u64 (full n : Nat)) ∧ w' = W) := fun W => full_calls n W hn
      clear b2 r2 R1 B1 HY HS
      go_wp2_with fail
      refine (KF.out _).mono ?_
      rintro e w3 ⟨rfl, rfl⟩
      go_wp2_with fail
      go_ret2
      exact ⟨full n, true, k + 1, rfl, HE.out, R2.out, B2.out⟩
    · have HY : Hid (∀ W, Rdr W r bs n k v ns → Calls Tryz.prog 134 #[.pointer (some ⟨r, 0, none⟩), .int .u8 121] W fun e w' => e = .returned (.bool false) ∧ Rdr w' r bs n k v ns ∧ Below r W w') := fun W hW => sign_no r n k 121 bs v ns W hW e1
      have HNU : Hid (∀ W, Rdr W r bs n k v ns → Calls Tryz.prog 137 #[.pointer (some ⟨r, 0, none⟩)] W fun e w' => ∃ (x : Int) (k' : Nat), e = .returned (.int .i64 x) ∧ NumAt bs ns.length k x k' ∧ Rdr w' r bs n k' v ns ∧ Below r W w') := fun W hW => number_walk r n k bs v ns W hW hk hl hns
      have E0 : Hid (bs[k]? ≠ some 110) := e0
      have E1 : Hid (bs[k]? ≠ some 121) := e1
      clear e0 e1
      obtain ⟨ao, cap, rfl⟩ := h.slice
      clear h
      go_enter Tryz.func133, Tryz.ntmps133
      go_wp2_with fail
      refine HS.out.mono ?_
      rintro e w1 ⟨rfl, r1, b1⟩
      have B1 : Hid _ := b1
      have R1 : Hid _ := r1
      clear b1 r1
      go_wp2_with fail
      refine (HY.out _ R1.out).mono ?_
      rintro e w2 ⟨rfl, r2, b2⟩
      have B2 : Hid (Below r w w2) := low_trans B1.out b2
      have R2 : Hid _ := r2
      clear b2 r2 R1 B1 HY HS
      go_wp2_with fail
      refine (HNU.out _ R2.out).mono ?_
      rintro e w3 ⟨y, k', rfl, ny, r3, b3⟩
      have B3 : Hid (Below r w w3) := low_trans B2.out b3
      have R3 : Hid _ := r3
      have NY : Hid (NumAt bs ns.length k y k') := ny
      have c3 : w3.cell? ⟨r, 3, none⟩ = some (.slice ao ns.length cap) := cell_of_block r3.blk 3
      have hlt := r3.lt
      clear ny b3 r3 B2 R2 HNU
      by_cases y0 : y < 0
      · have HE : Hid (LinkAt n bs ns x k 0 false k') := link_bad NY.out E0.out E1.out (.inl y0)
        have g0 : decide (y < 0) = true := by simp; omega
        go_wp2_with fail
        go_ret2
        exact ⟨0, false, k', rfl, HE.out, R3.out, B3.out⟩
      · have g0 : decide (y < 0) = false := by simp; omega
        obtain ⟨j, rfl⟩ : ∃ j : Nat, y = j := ⟨y.toNat, by omega⟩
        by_cases hj : j < ns.length
        · have g1 : decide ((ns.length : Int) ≤ (j : Int)) = false := by simp; omega
          obtain ⟨g, rfl, i1, i2⟩ := row_item R3.out hj
          by_cases hv : ns[j].1 ≤ x
          · have HE : Hid (LinkAt n bs ns x k 0 false k') := link_low NY.out E0.out E1.out hj hv
            generalize ns[j].1 = nv at *
            generalize tb n ns (j + 2) = tt at *
            go_wp2_with fail
            go_ret2
            exact ⟨0, false, k', rfl, HE.out, R3.out.below ((Below.refl _ _).alloc (Nat.le_refl _) _), low_trans B3.out ((Below.refl _ _).alloc (Nat.le_of_lt hlt) _)⟩
          · have HE : Hid (LinkAt n bs ns x k (tb n ns (j + 2)) true k') := link_good NY.out E0.out E1.out hj (by omega)
            generalize ns[j].1 = nv at *
            generalize tb n ns (j + 2) = tt at *
            go_wp2_with fail
            go_ret2
            exact ⟨tt, true, k', rfl, HE.out, R3.out.below ((Below.refl _ _).alloc (Nat.le_refl _) _), low_trans B3.out ((Below.refl _ _).alloc (Nat.le_of_lt hlt) _)⟩
        · have HE : Hid (LinkAt n bs ns x k 0 false k') := link_bad NY.out E0.out E1.out (.inr (by omega))
          have g1 : decide ((ns.length : Int) ≤ (j : Int)) = true := by simp; omega
          go_wp2_with fail
          go_ret2
          exact ⟨0, false, k', rfl, HE.out, R3.out, B3.out⟩
end Go.Proofs.YthoodkbdpnffdabGreatDoor

/-
  Own work: the program's reader of texts: items (a walk).
-/
namespace Go.Proofs.YthoodkbdpnffdabGreatDoor
open Go.RowKit
open Cho (U64 Tab full col decL dgt Nd Red lnk tb itm rend Txt Says isD NumAt)

/-- The reader's row with one item more. -/
theorem Rdr.more {w w1 : World} {r n k : Nat} {bs : List UInt8} {v v' : Value} {ns : List Nd} {x : Nd} {o : Obj} (h : Rdr w r bs n k v ns) (hw : Cho.Wf ns) (hg : (w.alloc o).grownBy w1 v.ownBlock)
    (hr : w1.ownsRow (r + 1) 164 2 v' (ns.length + 1) (itv n ns ++ [.int .i64 (x.1 : Nat), .int .u64 (tb n (ns ++ [x]) (ns.length + 2) : Nat)])) :
    w1.heap[r]? = some (.cells #[.string ⟨bs.toArray⟩, .int .i64 (k : Nat), .int .i64 (n : Nat), v] 162 (0, 0)) ∧
    Rdr (w1.setCell ⟨r, 3, none⟩ v') r bs n k v' (ns ++ [x]) ∧ Below r w (w1.setCell ⟨r, 3, none⟩ v') := by
  have hlt := h.lt
  have hne : some r ≠ v.ownBlock := fun e => by have := (h.row.lt _ e.symm).1; omega
  have hb := (hg.block r (by simp; omega) hne).trans ((Below.heap_alloc _ _ _ hlt).trans h.blk)
  refine ⟨hb, ⟨?_, ?_⟩, ?_⟩
  · simp only [World.setCell, Array.getElem?_modify, hb]; simp
  · rw [itv_snoc hw, List.length_append, List.length_singleton]
    exact owns_kept hr fun g hgb => block_set_other (by have := (hr.lt g hgb).1; simp; omega)
  · exact Below.setCell (p := ⟨r, 3, none⟩) ((((Below.refl r w).alloc (by omega) o)).grown hg (by simp; omega) (fun q hq => by have := (h.row.lt q hq).1; omega)) (Nat.le_refl r) v'

set_option maxRecDepth 100000 in
set_option maxHeartbeats 4000000 in
/-- 'readItem' reads an item with the sign behind it, or it finds that there is none that may be. -/
theorem item_walk (r n k : Nat) (bs : List UInt8) (v : Value) (ns : List Nd) (w : World) (h : Rdr w r bs n k v ns) (hl : bs.length ≤ 2000) (hns : ns.length ≤ 400) (hn : n ≤ 6) (htx : Txt n ns) (hc : Cols w) (hr0 : 0 < r) :
    Calls Tryz.prog 122 #[.pointer (some ⟨r, 0, none⟩)] w fun e w' => ∃ (ok : Bool) (k' : Nat) (v' : Value) (ms : List Nd), e = .returned (.bool ok) ∧ ItemAt n bs ns k ok k' ms ∧ (ok = true → Rdr w' r bs n k' v' ms) ∧ Below r w w' := by
  obtain ⟨i0, hi0, hz0, hz1, hz2⟩ := info_parts Tryz.infoTItem
  have H : Hid (Rdr w r bs n k v ns) := h
  have HC : Hid (Cols w) := hc
  have HTX : Hid (Txt n ns) := htx
  have HLK : Hid (∀ j x W, Rdr W r bs n j v ns → j ≤ bs.length → x < n → Calls Tryz.prog 133 #[.pointer (some ⟨r, 0, none⟩), .int .i64 (x : Nat)] W fun e w' => ∃ (t : Nat) (ok : Bool) (k' : Nat), e = .returned (.tuple #[.int .u64 (t : Nat), .bool ok]) ∧ LinkAt n bs ns x j t ok k' ∧ Rdr w' r bs n k' v ns ∧ Below r W w') :=
    fun j x W hW hj hx => link_walk r n j x bs v ns W hW hj hl hns hn hx
  have HS1 : Hid (∀ j (c : UInt8) W, Rdr W r bs n j v ns → bs[j]? = some c → Calls Tryz.prog 134 #[.pointer (some ⟨r, 0, none⟩), .int .u8 (c.toNat : Nat)] W fun e w' => e = .returned (.bool true) ∧ Rdr w' r bs n (j + 1) v ns ∧ Below r W w') :=
    fun j c W hW hd => sign_yes r n j c bs v ns W hW hl hd
  have HS0 : Hid (∀ j (c : UInt8) W, Rdr W r bs n j v ns → bs[j]? ≠ some c → Calls Tryz.prog 134 #[.pointer (some ⟨r, 0, none⟩), .int .u8 (c.toNat : Nat)] W fun e w' => e = .returned (.bool false) ∧ Rdr w' r bs n j v ns ∧ Below r W w') :=
    fun j c W hW hd => sign_no r n j c bs v ns W hW hd
  obtain ⟨ao, cap, rfl⟩ := h.slice
  clear h hc htx
  by_cases hd : ∃ d, d < 10 ∧ bs[k]? = some (dgt d)
  · obtain ⟨d, h10, hd⟩ := hd
    have KD : Hid (Calls Tryz.prog 132 #[.pointer (some ⟨r, 0, none⟩)] w fun e w' => e = .returned (.int .i64 (d : Nat)) ∧ Rdr w' r bs n (k + 1) (.slice ao ns.length cap) ns ∧ Below r w w') := digit_yes r n k d bs _ ns w H.out hl hd h10
    have HD : Hid (bs[k]? = some (dgt d)) := hd
    have hk1 : k + 1 ≤ bs.length := (List.getElem?_eq_some_iff.1 hd).1
    clear hd
    go_enter Tryz.func122, Tryz.ntmps122
    go_wp2_with fail
    refine KD.out.mono ?_
    rintro e w1 ⟨rfl, r1, b1⟩
    have c2 : w1.cell? ⟨r, 2, none⟩ = some (.int .i64 (n : Nat)) := cell_of_block r1.blk 2
    have hlt1 := r1.lt
    have R1 : Hid _ := r1
    have B1 : Hid _ := b1
    clear r1 b1 KD
    have g0 : decide ((d : Int) < 0) = false := by simp
    by_cases hdn : d < n
    · have g1 : decide ((n : Int) ≤ (d : Int)) = false := by simp; omega
      go_wp2_with fail
      refine (HLK.out (k + 1) d _ R1.out hk1 hdn).mono ?_
      rintro e w2 ⟨t, ok, k2, rfl, l2, r2, b2⟩
      have L2 : Hid _ := l2
      have R2 : Hid _ := r2
      have B2 : Hid (Below r w w2) := low_trans B1.out b2
      have hk2 := l2.le
      have ht := l2.tab
      clear l2 r2 b2 R1 B1
      cases ok with
      | false =>
        have HE : Hid (ItemAt n bs ns k false 0 ns) := item_no1 hn hdn HD.out L2.out
        go_wp2_with fail
        go_ret
        exact ⟨false, 0, .slice ao ns.length cap, ns, rfl, HE.out, fun h => absurd h (by decide), B2.out⟩
      | true =>
        by_cases hs : bs[k2]? = some 44
        · have KS : Hid (Calls Tryz.prog 134 #[.pointer (some ⟨r, 0, none⟩), .int .u8 44] w2 fun e w' => e = .returned (.bool true) ∧ Rdr w' r bs n (k2 + 1) (.slice ao ns.length cap) ns ∧ Below r w2 w') := HS1.out k2 44 w2 R2.out hs
          have HS : Hid (bs[k2]? = some 44) := hs
          have hk3 : k2 + 1 ≤ bs.length := (List.getElem?_eq_some_iff.1 hs).1
          clear hs
          go_wp2_with fail
          refine KS.out.mono ?_
          rintro e w3 ⟨rfl, r3, b3⟩
          have R3 : Hid _ := r3
          have B3 : Hid (Below r w w3) := low_trans B2.out b3
          clear r3 b3 R2 B2 KS
          go_wp2_with fail
          refine (HLK.out (k2 + 1) d _ R3.out hk3 hdn).mono ?_
          rintro e w4 ⟨u, ok, k4, rfl, l4, r4, b4⟩
          have L4 : Hid _ := l4
          have R4 : Hid _ := r4
          have B4 : Hid (Below r w w4) := low_trans B3.out b4
          have hu := l4.tab
          clear l4 r4 b4 R3 B3
          cases ok with
          | false =>
            have HE : Hid (ItemAt n bs ns k false 0 ns) := item_no3 hn hdn HD.out L2.out L4.out
            go_wp2_with fail
            go_ret
            exact ⟨false, 0, .slice ao ns.length cap, ns, rfl, HE.out, fun h => absurd h (by decide), B4.out⟩
          | true =>
            by_cases hs : bs[k4]? = some 59
            · have KS : Hid (Calls Tryz.prog 134 #[.pointer (some ⟨r, 0, none⟩), .int .u8 59] w4 fun e w' => e = .returned (.bool true) ∧ Rdr w' r bs n (k4 + 1) (.slice ao ns.length cap) ns ∧ Below r w4 w') := HS1.out k4 59 w4 R4.out hs
              obtain ⟨l0, l1, it, etb⟩ := item_yes HTX.out hdn HD.out L2.out HS.out L4.out hs
              rw [← choose_bld hn hdn ht hu] at etb
              have IT : Hid _ := it
              have ETB : Hid _ := etb
              clear hs it etb
              go_wp2_with fail
              refine KS.out.mono ?_
              rintro e w5 ⟨rfl, r5, b5⟩
              have R5 : Hid _ := r5
              have B5 : Hid (Below r w w5) := low_trans B4.out b5
              have c5 : w5.cell? ⟨r, 2, none⟩ = some (.int .i64 (n : Nat)) := cell_of_block r5.blk 2
              have hlt5 := r5.lt
              have C5 : Hid (Cols w5) := fun i hi => by
                have := b5; exact (HC.out.below B5.out hr0) i hi
              clear r5 b5 R4 B4 KS
              have hU1 : U64 (col d &&& full n) := Cho.and_u64 (Cho.col_u64 d)
              go_wp2_with fail
              refine (variable_calls d n _ C5.out (by omega) hn).mono ?_
              rintro e w6 ⟨rfl, q, hw6⟩
              have b6 : Below w5.heap.size w5 w6 := by rw [hw6]; exact below_drewN (Below.refl _ _) q
              have R6 : Hid (Rdr w6 r bs n (k4 + 1) (.slice ao ns.length cap) ns) := R5.out.below b6
              have B6 : Hid (Below r w w6) := low_trans B5.out (b6.mono (Nat.le_of_lt hlt5))
              have KC : Hid (Calls Tryz.prog 78 #[.int .u64 ((col d &&& full n : Nat) : Int), .int .u64 (u : Nat), .int .u64 (t : Nat)] w6 fun e w' => e = .returned (.int .u64 (Cho.chooseT (col d &&& full n) u t : Nat)) ∧ w' = w6) := choose_calls _ u t w6 hU1 (hu.u64 hn) (ht.u64 hn)
              rw [← ETB.out] at KC
              clear hw6 b6 R5 B5 C5 hU1 c5 hlt5 ht hu ETB
              have hTB := ((Cho.tb_tab n (ns ++ [(d, l0, l1)]) (ns.length + 2)).u64 hn).lt
              generalize htt : tb n (ns ++ [(d, l0, l1)]) (ns.length + 2) = tt at *
              have HTT : Hid (tb n (ns ++ [(d, l0, l1)]) (ns.length + 2) = tt) := htt
              clear htt
              generalize ((col d &&& full n : Nat) : Int) = A at *
              go_wp2_with fail
              refine KC.out.mono ?_
              rintro e w7 ⟨rfl, rfl⟩
              have c3 : w7.cell? ⟨r, 3, none⟩ = some (.slice ao ns.length cap) := cell_of_block R6.out.blk 3
              have f3 : w7.frozen? ⟨r, 3, none⟩ = false := frozen_of_block R6.out.blk 3
              have hlt7 := R6.out.lt
              have F1 : Hid (ns.length + 1 ≤ maxLen) := by show ns.length + 1 ≤ maxLen; unfold maxLen; omega
              have F2 : Hid ((ns.length + 1) * 16 ≤ 140737488355328) := by show (ns.length + 1) * 16 ≤ 140737488355328; omega
              have F3 : Hid (r + 1 ≤ (w7.alloc (.cells #[.int .i64 (d : Nat), .int .u64 (tt : Nat)] 164)).heap.size) := by show r + 1 ≤ (w7.alloc (.cells #[.int .i64 (d : Nat), .int .u64 (tt : Nat)] 164)).heap.size; simp; omega
              have O7 : Hid ((w7.alloc (.cells #[.int .i64 (d : Nat), .int .u64 (tt : Nat)] 164)).ownsRow (r + 1) 164 2 (.slice ao ns.length cap) ns.length (itv n ns)) := R6.out.row.alloc _
              have IE : Hid (∀ v' w8, w8.ownsRow (r + 1) 164 2 v' (ns.length + 1) (itv n ns ++ [.int .i64 (d : Nat), .int .u64 (tt : Nat)]) → (w7.alloc (.cells #[.int .i64 (d : Nat), .int .u64 (tt : Nat)] 164)).grownBy w8 (Value.slice ao ns.length cap).ownBlock →
                  w8.cell? ⟨r, 3, none⟩ = some (.slice ao ns.length cap) ∧ w8.frozen? ⟨r, 3, none⟩ = false ∧ Rdr (w8.setCell ⟨r, 3, none⟩ v') r bs n (k4 + 1) v' (ns ++ [(d, l0, l1)]) ∧ Below r w (w8.setCell ⟨r, 3, none⟩ v')) := by
                intro v' w8 ho hg
                have hm := R6.out.more (x := (d, l0, l1)) HTX.out.wf hg (by rw [HTT.out]; exact ho)
                exact ⟨cell_of_block hm.1 3, frozen_of_block hm.1 3, hm.2.1, low_trans B6.out hm.2.2⟩
              go_wp2_with (at_builtin; go_must (refine wpList_append_own _ rfl _ _ 160 rfl (r + 1) 164 i0 _ 2 16 Tryz.underlying160 hi0 hz0 hz1 hz2 rfl (Nat.succ_pos 1) (.slice ao ns.length cap) ns.length (itv n ns) ?e1 O7.out ⟨w7.heap.size, 0, none⟩ 1 1 [.int .i64 (d : Nat), .int .u64 (tt : Nat)] ?e2 rfl (new_cells w7 [.int .i64 (d : Nat), .int .u64 (tt : Nat)] _) ?e3 F1.out F2.out F3.out ?_); (case e1 => rfl); (case e2 => rfl); (case e3 => simp [Value.oneCell']); intro v' w8 hown hgrow _; have HE := IE.out v' w8 hown hgrow; have m0 := HE.1; have mf := HE.2.1; have HW : Hid _ := HE.2.2; obtain ⟨av', cv', rfl⟩ := owns_slice hown; clear HE hown hgrow)
              go_ret
              exact ⟨true, k4 + 1, _, _, rfl, IT.out, fun _ => HW.out.1, HW.out.2⟩
            · have KS : Hid (Calls Tryz.prog 134 #[.pointer (some ⟨r, 0, none⟩), .int .u8 59] w4 fun e w' => e = .returned (.bool false) ∧ Rdr w' r bs n k4 (.slice ao ns.length cap) ns ∧ Below r w4 w') := HS0.out k4 59 w4 R4.out hs
              have HE : Hid (ItemAt n bs ns k false 0 ns) := item_no4 hn hdn HD.out L2.out L4.out hs
              clear hs
              go_wp2_with fail
              refine KS.out.mono ?_
              rintro e w5 ⟨rfl, r5, b5⟩
              go_wp2_with fail
              go_ret
              exact ⟨false, 0, .slice ao ns.length cap, ns, rfl, HE.out, fun h => absurd h (by decide), low_trans B4.out b5⟩
        · have KS : Hid (Calls Tryz.prog 134 #[.pointer (some ⟨r, 0, none⟩), .int .u8 44] w2 fun e w' => e = .returned (.bool false) ∧ Rdr w' r bs n k2 (.slice ao ns.length cap) ns ∧ Below r w2 w') := HS0.out k2 44 w2 R2.out hs
          have HE : Hid (ItemAt n bs ns k false 0 ns) := item_no2 hn hdn HD.out L2.out hs
          clear hs
          go_wp2_with fail
          refine KS.out.mono ?_
          rintro e w3 ⟨rfl, r3, b3⟩
          go_wp2_with fail
          go_ret
          exact ⟨false, 0, .slice ao ns.length cap, ns, rfl, HE.out, fun h => absurd h (by decide), low_trans B2.out b3⟩
    · have g1 : decide ((n : Int) ≤ (d : Int)) = true := by simp; omega
      have HE : Hid (ItemAt n bs ns k false 0 ns) := item_no0 (fun d' hd' hlt => by
        rw [HD.out] at hd'
        have := Cho.dgt_inj h10 (by omega) (Option.some.inj hd')
        omega)
      go_wp2_with fail
      go_ret
      exact ⟨false, 0, .slice ao ns.length cap, ns, rfl, HE.out, fun h => absurd h (by decide), B1.out⟩
  · have hno : ∀ c, bs[k]? = some c → isD c = false := fun c hc => by
      cases hq : isD c with
      | false => rfl
      | true =>
        obtain ⟨d, h1, h2, _⟩ := Cho.isD_of hq
        exact absurd ⟨d, h1, by rw [hc, h2]⟩ hd
    have KD : Hid (Calls Tryz.prog 132 #[.pointer (some ⟨r, 0, none⟩)] w fun e w' => e = .returned (.int .i64 (-1)) ∧ Rdr w' r bs n k (.slice ao ns.length cap) ns ∧ Below r w w') := digit_no r n k bs _ ns w H.out hno
    have HE : Hid (ItemAt n bs ns k false 0 ns) := item_no0 (fun d' hd' hlt => hd ⟨d', by omega, hd'⟩)
    clear hd hno
    go_enter Tryz.func122, Tryz.ntmps122
    go_wp2_with fail
    refine KD.out.mono ?_
    rintro e w1 ⟨rfl, r1, b1⟩
    have c2 : w1.cell? ⟨r, 2, none⟩ = some (.int .i64 (n : Nat)) := cell_of_block r1.blk 2
    have hlt1 := r1.lt
    go_wp2_with fail
    go_ret
    exact ⟨false, 0, .slice ao ns.length cap, ns, rfl, HE.out, fun h => absurd h (by decide), b1⟩
end Go.Proofs.YthoodkbdpnffdabGreatDoor
