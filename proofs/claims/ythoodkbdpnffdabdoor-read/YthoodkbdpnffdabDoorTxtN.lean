/-
  Own work: the program's reader of texts: numbers and links (walks).
-/
import Derived.Test.YthoodkbdpnffdabDoorTxtR
namespace Go.Proofs.YthoodkbdpnffdabDoor
open Go.RowKit
open Cho (U64 Tab full col decL dgt Nd Red lnk tb itm rend Txt Says isD NumAt Reading)

/-- What 'digit' has found at place k. -/
def Nxt (bs : List UInt8) (n r : Nat) (v : Value) (ns : List Nd) (k : Nat) (x : Int) (w : World) : Prop :=
  (x = -1 ∧ (∀ c, bs[k]? = some c → isD c = false) ∧ Rdr w r bs n k v ns) ∨ ∃ d : Nat, d < 10 ∧ x = d ∧ bs[k]? = some (dgt d) ∧ Rdr w r bs n (k + 1) v ns
theorem low_trans {b : Nat} {a w w' : World} (h : Below b a w) (k : Below b w w') : Below b a w' := h.trans k

set_option maxRecDepth 100000 in
set_option maxHeartbeats 1000000 in
/-- 'number' reads a number that is an item's, or it finds that there is none. -/
theorem number_walk (r n k : Nat) (bs : List UInt8) (v : Value) (ns : List Nd) (w : World) (h : Rdr w r bs n k v ns) (hk : k ≤ bs.length) (hl : bs.length ≤ 2000) (hns : ns.length ≤ 400) :
    Calls Tryd.prog 40 #[.pointer (some ⟨r, 0, none⟩)] w fun e w' => ∃ (x : Int) (k' : Nat), e = .returned (.int .i64 x) ∧ NumAt bs ns.length k x k' ∧ Rdr w' r bs n k' v ns ∧ Below r w w' := by
  have HD : Hid (∀ j d W, Rdr W r bs n j v ns → bs[j]? = some (dgt d) → d < 10 → Calls Tryd.prog 32 #[.pointer (some ⟨r, 0, none⟩)] W fun e w' => e = .returned (.int .i64 (d : Nat)) ∧ Rdr w' r bs n (j + 1) v ns ∧ Below r W w') :=
    fun j d W hW hd h10 => digit_yes r n j d bs v ns W hW hl hd h10
  have HN : Hid (∀ j W, Rdr W r bs n j v ns → (∀ c, bs[j]? = some c → isD c = false) → Calls Tryd.prog 32 #[.pointer (some ⟨r, 0, none⟩)] W fun e w' => e = .returned (.int .i64 (-1)) ∧ Rdr w' r bs n j v ns ∧ Below r W w') :=
    fun j W hW hd => digit_no r n j bs v ns W hW hd
  have HX : Hid (∀ j : Nat, (∃ d, d < 10 ∧ bs[j]? = some (dgt d)) ∨ (∀ c, bs[j]? = some c → isD c = false)) := by
    intro j
    cases hb : bs[j]? with
    | none => exact .inr (fun c hc => by cases hc)
    | some c =>
      cases hc : isD c with
      | true =>
        obtain ⟨d, h1, h2, _⟩ := Cho.isD_of hc
        exact .inl ⟨d, h1, by rw [h2]⟩
      | false => exact .inr (fun c' h' => by simp at h'; subst h'; exact hc)
  have HNX : Hid (∀ j W, Rdr W r bs n j v ns → Calls Tryd.prog 32 #[.pointer (some ⟨r, 0, none⟩)] W fun e w' => ∃ x, e = .returned (.int .i64 x) ∧ Nxt bs n r v ns j x w' ∧ Below r W w') := by
    intro j W hW
    rcases HX.out j with ⟨d, h10, hd⟩ | hno
    · exact (HD.out j d W hW hd h10).mono fun e w' ⟨h1, h2, h3⟩ => ⟨d, h1, .inr ⟨d, h10, rfl, hd, h2⟩, h3⟩
    · exact (HN.out j W hW hno).mono fun e w' ⟨h1, h2, h3⟩ => ⟨-1, h1, .inl ⟨rfl, hno, h2⟩, h3⟩
  have H : Hid (Rdr w r bs n k v ns) := h
  obtain ⟨ao, cap, rfl⟩ := h.slice
  clear h
  rcases HX.out k with ⟨d, h10, hd⟩ | hno
  · have HDK : Hid (bs[k]? = some (dgt d)) := hd
    clear hd
    by_cases d0 : d = 0
    · subst d0
      go_enter Tryd.func40, Tryd.ntmps40
      go_wp2_with fail
      refine (HD.out k 0 _ H.out HDK.out h10).mono ?_
      rintro e w1 ⟨rfl, r1, b1⟩
      go_wp2_with fail
      go_ret
      exact ⟨0, k + 1, rfl, Cho.num_zero HDK.out, r1, b1⟩
    · have hd1 : ¬ (d : Int) ≤ 0 := by omega
      have HR0 : Hid (Reading bs k d (k + 1)) := Cho.reading0 HDK.out (by omega) h10
      go_enter Tryd.func40, Tryd.ntmps40
      go_wp2_with fail
      refine (HD.out k d _ H.out HDK.out h10).mono ?_
      rintro e w1 ⟨rfl, r1, b1⟩
      have R1 : Hid _ := r1
      have B1 : Hid _ := b1
      clear r1 b1
      go_wp2_with fail
      refine (HNX.out (k + 1) _ R1.out).mono ?_
      rintro e w2 ⟨x, rfl, nx, b2⟩
      have NX : Hid (Nxt bs n r (.slice ao ns.length cap) ns (k + 1) x w2) := nx
      have B2 : Hid (Below r w w2) := low_trans B1.out b2
      clear nx b2 B1 R1
      go_wp2_with fail
      go_loopw [3, 4] (fun x3 x4 wr => ∃ (j k' : Nat) (x : Int), x3 = .int .i64 (j : Nat) ∧ x4 = .int .i64 x ∧ j ≤ 400 ∧ Hid (Reading bs k j k') ∧ Hid (Nxt bs n r (.slice ao ns.length cap) ns k' x wr) ∧ Hid (Below r w wr)) (fun x3 _ _ => 401 - (intOf x3).toNat)
      case atStart => exact ⟨d, k + 1, x, rfl, rfl, by omega, HR0, NX, B2⟩
      case round =>
        obtain ⟨j, k', x, rfl, rfl, hj, RD, NX, BW⟩ := hrel
        have hjp := RD.out.pos
        rcases NX.out with ⟨rfl, hno, hr⟩ | ⟨d, h10, rfl, hd, hr⟩
        · have HE : Hid (NumAt bs ns.length k j k') := RD.out.done hno
          have HRR : Hid _ := hr
          clear hno hr NX
          go_wp2_with fail
          go_ret
          exact ⟨j, k', rfl, HE.out, HRR.out, BW.out⟩
        · have RD2 : Hid (Reading bs k (j * 10 + d) (k' + 1)) := RD.out.step h10 hd
          have HRR : Hid (Rdr wr r bs n (k' + 1) (.slice ao ns.length cap) ns) := hr
          have c3 : wr.cell? ⟨r, 3, none⟩ = some (.slice ao ns.length cap) := cell_of_block hr.blk 3
          have hlt := hr.lt
          clear hd hr NX RD
          have hd0 : 0 ≤ (d : Int) := by omega
          by_cases hov : ns.length ≤ j * 10 + d
          · have HE : Hid (NumAt bs ns.length k (-1) (k' + 1)) := RD2.out.over hov
            have hov' : (ns.length : Int) ≤ (j : Int) * 10 + (d : Int) := by omega
            go_wp2_with fail
            go_ret
            exact ⟨-1, k' + 1, rfl, HE.out, HRR.out, BW.out⟩
          · have hov' : ¬ (ns.length : Int) ≤ (j : Int) * 10 + (d : Int) := by omega
            go_wp2_with fail
            refine (HNX.out (k' + 1) _ HRR.out).mono ?_
            rintro e w3 ⟨y, rfl, nx, b3⟩
            have NX3 : Hid _ := nx
            have B3 : Hid (Below r w w3) := low_trans BW.out b3
            clear nx b3
            go_wp2_with fail
            exact ⟨⟨j * 10 + d, k' + 1, y, by go_num, rfl, by omega, RD2, NX3, B3⟩, by simp [intOf]; omega⟩
  · go_enter Tryd.func40, Tryd.ntmps40
    go_wp2_with fail
    refine (HN.out k _ H.out hno).mono ?_
    rintro e w1 ⟨rfl, r1, b1⟩
    go_wp2_with fail
    go_ret
    exact ⟨-1, k, rfl, Cho.num_none hno hk, r1, b1⟩

theorem row_item {w : World} {r n k : Nat} {bs : List UInt8} {ns : List Nd} {ao : Option Addr} {cap j : Nat} (h : Rdr w r bs n k (.slice ao ns.length cap) ns) (hj : j < ns.length) :
    ∃ g, ao = some ⟨g, 0, none⟩ ∧ w.cell? ⟨g, j * 2, none⟩ = some (.int .i64 (ns[j].1 : Nat)) ∧ w.cell? ⟨g, j * 2 + 1, none⟩ = some (.int .u64 (tb n ns (j + 2) : Nat)) := by
  obtain ⟨g, cap', e, _⟩ := owns_form h.row (by omega)
  simp only [Value.slice.injEq] at e
  obtain ⟨rfl, _, _⟩ := e
  obtain ⟨e1, e2⟩ := prs_get (fun j => ((Value.int .i64 ((ns.getD j (0, 0, 0)).1 : Nat)), (Value.int .u64 (tb n ns (j + 2) : Nat)))) hj
  have r1 := h.row.cells (g := g) rfl _ _ e1
  have r2 := h.row.cells (g := g) rfl _ _ e2
  rw [Addr.add_mid, Nat.zero_add] at r1 r2
  have eg : ns.getD j (0, 0, 0) = ns[j] := by simp [List.getD, hj]
  simp only [eg] at r1
  exact ⟨g, rfl, r1, r2⟩

set_option maxRecDepth 100000 in
set_option maxHeartbeats 1000000 in
/-- 'link' reads a link that may be, or it finds that there is none. -/
theorem link_walk (r n k x : Nat) (bs : List UInt8) (v : Value) (ns : List Nd) (w : World) (h : Rdr w r bs n k v ns) (hk : k ≤ bs.length) (hl : bs.length ≤ 2000) (hns : ns.length ≤ 400) (hn : n ≤ 6) (hx : x < n) :
    Calls Tryd.prog 33 #[.pointer (some ⟨r, 0, none⟩), .int .i64 (x : Nat)] w fun e w' => ∃ (t : Nat) (ok : Bool) (k' : Nat), e = .returned (.tuple #[.int .u64 (t : Nat), .bool ok]) ∧ LinkAt n bs ns x k t ok k' ∧ Rdr w' r bs n k' v ns ∧ Below r w w' := by
  have H : Hid (Rdr w r bs n k v ns) := h
  by_cases e0 : bs[k]? = some 110
  · have HS : Hid (Calls Tryd.prog 34 #[.pointer (some ⟨r, 0, none⟩), .int .u8 110] w fun e w' => e = .returned (.bool true) ∧ Rdr w' r bs n (k + 1) v ns ∧ Below r w w') := sign_yes r n k 110 bs v ns w h hl e0
    have HE : Hid (LinkAt n bs ns x k 0 true (k + 1)) := link_n hx e0
    clear h e0
    go_enter Tryd.func33, Tryd.ntmps33
    go_wp2_with fail
    refine HS.out.mono ?_
    rintro e w1 ⟨rfl, r1, b1⟩
    go_wp2_with fail
    go_ret2
    exact ⟨0, true, k + 1, rfl, HE.out, r1, b1⟩
  · have HS : Hid (Calls Tryd.prog 34 #[.pointer (some ⟨r, 0, none⟩), .int .u8 110] w fun e w' => e = .returned (.bool false) ∧ Rdr w' r bs n k v ns ∧ Below r w w') := sign_no r n k 110 bs v ns w h e0
    by_cases e1 : bs[k]? = some 121
    · have HY : Hid (∀ W, Rdr W r bs n k v ns → Calls Tryd.prog 34 #[.pointer (some ⟨r, 0, none⟩), .int .u8 121] W fun e w' => e = .returned (.bool true) ∧ Rdr w' r bs n (k + 1) v ns ∧ Below r W w') := fun W hW => sign_yes r n k 121 bs v ns W hW hl e1
      have HE : Hid (LinkAt n bs ns x k (full n) true (k + 1)) := link_y hx e1
      clear h e0 e1
      go_enter Tryd.func33, Tryd.ntmps33
      go_wp2_with fail
      refine HS.out.mono ?_
      rintro e w1 ⟨rfl, r1, b1⟩
      have B1 : Hid _ := b1
      have R1 : Hid _ := r1
      clear b1 r1
      go_wp2_with fail
      refine (HY.out _ R1.out).mono ?_
      rintro e w2 ⟨rfl, r2, b2⟩
      have c2 : w2.cell? ⟨r, 2, none⟩ = some (.int .i64 (n : Nat)) := cell_of_block r2.blk 2
      have hlt := r2.lt
      have B2 : Hid (Below r w w2) := low_trans B1.out b2
      have R2 : Hid _ := r2
      have KF : Hid (∀ W, Calls Tryd.prog 24 #[.int .i64 (n : Nat)] W fun e w' => e = .returned (.int .u64 (full n : Nat)) ∧ w' = W) := fun W => full_calls n W hn
      clear b2 r2 R1 B1 HY HS
      go_wp2_with fail
      refine (KF.out _).mono ?_
      rintro e w3 ⟨rfl, rfl⟩
      go_wp2_with fail
      go_ret2
      exact ⟨full n, true, k + 1, rfl, HE.out, R2.out, B2.out⟩
    · have HY : Hid (∀ W, Rdr W r bs n k v ns → Calls Tryd.prog 34 #[.pointer (some ⟨r, 0, none⟩), .int .u8 121] W fun e w' => e = .returned (.bool false) ∧ Rdr w' r bs n k v ns ∧ Below r W w') := fun W hW => sign_no r n k 121 bs v ns W hW e1
      have HNU : Hid (∀ W, Rdr W r bs n k v ns → Calls Tryd.prog 40 #[.pointer (some ⟨r, 0, none⟩)] W fun e w' => ∃ (x : Int) (k' : Nat), e = .returned (.int .i64 x) ∧ NumAt bs ns.length k x k' ∧ Rdr w' r bs n k' v ns ∧ Below r W w') := fun W hW => number_walk r n k bs v ns W hW hk hl hns
      have E0 : Hid (bs[k]? ≠ some 110) := e0
      have E1 : Hid (bs[k]? ≠ some 121) := e1
      clear e0 e1
      obtain ⟨ao, cap, rfl⟩ := h.slice
      clear h
      go_enter Tryd.func33, Tryd.ntmps33
      go_wp2_with fail
      refine HS.out.mono ?_
      rintro e w1 ⟨rfl, r1, b1⟩
      have B1 : Hid _ := b1
      have R1 : Hid _ := r1
      clear b1 r1
      go_wp2_with fail
      refine (HY.out _ R1.out).mono ?_
      rintro e w2 ⟨rfl, r2, b2⟩
      have B2 : Hid (Below r w w2) := low_trans B1.out b2
      have R2 : Hid _ := r2
      clear b2 r2 R1 B1 HY HS
      go_wp2_with fail
      refine (HNU.out _ R2.out).mono ?_
      rintro e w3 ⟨y, k', rfl, ny, r3, b3⟩
      have B3 : Hid (Below r w w3) := low_trans B2.out b3
      have R3 : Hid _ := r3
      have NY : Hid (NumAt bs ns.length k y k') := ny
      have c3 : w3.cell? ⟨r, 3, none⟩ = some (.slice ao ns.length cap) := cell_of_block r3.blk 3
      have hlt := r3.lt
      clear ny b3 r3 B2 R2 HNU
      by_cases y0 : y < 0
      · have HE : Hid (LinkAt n bs ns x k 0 false k') := link_bad NY.out E0.out E1.out (.inl y0)
        have g0 : decide (y < 0) = true := by simp; omega
        go_wp2_with fail
        go_ret2
        exact ⟨0, false, k', rfl, HE.out, R3.out, B3.out⟩
      · have g0 : decide (y < 0) = false := by simp; omega
        obtain ⟨j, rfl⟩ : ∃ j : Nat, y = j := ⟨y.toNat, by omega⟩
        by_cases hj : j < ns.length
        · have g1 : decide ((ns.length : Int) ≤ (j : Int)) = false := by simp; omega
          obtain ⟨g, rfl, i1, i2⟩ := row_item R3.out hj
          by_cases hv : ns[j].1 ≤ x
          · have HE : Hid (LinkAt n bs ns x k 0 false k') := link_low NY.out E0.out E1.out hj hv
            generalize ns[j].1 = nv at *
            generalize tb n ns (j + 2) = tt at *
            go_wp2_with fail
            go_ret2
            exact ⟨0, false, k', rfl, HE.out, R3.out.below ((Below.refl _ _).alloc (Nat.le_refl _) _), low_trans B3.out ((Below.refl _ _).alloc (Nat.le_of_lt hlt) _)⟩
          · have HE : Hid (LinkAt n bs ns x k (tb n ns (j + 2)) true k') := link_good NY.out E0.out E1.out hj (by omega)
            generalize ns[j].1 = nv at *
            generalize tb n ns (j + 2) = tt at *
            go_wp2_with fail
            go_ret2
            exact ⟨tt, true, k', rfl, HE.out, R3.out.below ((Below.refl _ _).alloc (Nat.le_refl _) _), low_trans B3.out ((Below.refl _ _).alloc (Nat.le_of_lt hlt) _)⟩
        · have HE : Hid (LinkAt n bs ns x k 0 false k') := link_bad NY.out E0.out E1.out (.inr (by omega))
          have g1 : decide ((ns.length : Int) ≤ (j : Int)) = true := by simp; omega
          go_wp2_with fail
          go_ret2
          exact ⟨0, false, k', rfl, HE.out, R3.out, B3.out⟩
end Go.Proofs.YthoodkbdpnffdabDoor
