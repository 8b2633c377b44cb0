/-
  Own work: the program reads a text (a walk).
-/
import Derived.Test.YthoodkbdpnffdabDoorTxtI
namespace Go.Proofs.YthoodkbdpnffdabDoor
open Go.RowKit
open Cho (U64 Tab full col decL dgt Nd Red lnk tb itm rend Txt Says isD NumAt readT)

/-- What Read answers. -/
def RdA (n : Nat) (bs : List UInt8) (e : Ending) : Prop := (∃ f, readT n bs = some f ∧ e = .returned (.tuple #[.int .u64 (f : Nat), .bool true])) ∨ (readT n bs = none ∧ e = .returned (.tuple #[.int .u64 0, .bool false]))
theorem rda_no {n : Nat} {bs : List UInt8} (h : ∀ f, ¬ Says n bs f) : RdA n bs (.returned (.tuple #[.int .u64 0, .bool false])) := .inr ⟨Cho.readT_none (fun ⟨_, f, hf⟩ => h f hf), rfl⟩
theorem rda_yes {n f : Nat} {bs : List UInt8} (hn : n ≤ 6) (hl : bs.length ≤ 2000) (h : Says n bs f) : RdA n bs (.returned (.tuple #[.int .u64 (f : Nat), .bool true])) := .inl ⟨f, Cho.readT_some hn hl h, rfl⟩
def atOf (w : World) (r : Nat) : Nat := match w.cell? ⟨r, 1, none⟩ with | some (.int _ x) => x.toNat | _ => 0
theorem Rdr.at' {w : World} {r n k : Nat} {bs : List UInt8} {v : Value} {ns : List Nd} (h : Rdr w r bs n k v ns) : atOf w r = k := by
  have c1 : w.cell? ⟨r, 1, none⟩ = some (.int .i64 (k : Nat)) := cell_of_block h.blk 1
  unfold atOf
  rw [c1]; simp

set_option maxRecDepth 100000 in
set_option maxHeartbeats 4000000 in
theorem read_calls (n : Nat) (bs : List UInt8) (w : World) (hn : n ≤ 6) (hl : bs.length ≤ 9223372036854775807) (hc : Cols w) :
    Calls Tryd.prog 14 #[txt bs, .int .i64 (n : Nat)] w fun e w' => RdA n bs e ∧ Below w.heap.size w w' := by
  unfold txt
  have hsz : (ByteArray.mk bs.toArray).size = bs.length := txt_size bs
  by_cases h2k : bs.length ≤ 2000
  · by_cases e0 : bs = [48]
    · subst e0
      have HA : Hid (RdA n [48] (.returned (.tuple #[.int .u64 ((0 : Nat) : Int), .bool true]))) := rda_yes hn (by decide) (.inl ⟨rfl, rfl⟩)
      clear hc
      go_enter Tryd.func14, Tryd.ntmps14
      go_wp2_with fail
      go_ret2
      exact ⟨HA.out, Below.refl _ _⟩
    · have b0 : (bs == [48]) = false := by rw [beq_eq_false_iff_ne]; exact e0
      by_cases e1 : bs = [49]
      · subst e1
        have HA : Hid (RdA n [49] (.returned (.tuple #[.int .u64 (full n : Nat), .bool true]))) := rda_yes hn (by decide) (.inr (.inl ⟨rfl, rfl⟩))
        have KF : Hid (Calls Tryd.prog 24 #[.int .i64 (n : Nat)] w fun e w' => e = .returned (.int .u64 (full n : Nat)) ∧ w' = w) := full_calls n w hn
        clear hc
        go_enter Tryd.func14, Tryd.ntmps14
        go_wp2_with fail
        refine KF.out.mono ?_
        rintro e w1 ⟨rfl, rfl⟩
        go_wp2_with fail
        go_ret2
        exact ⟨HA.out, Below.refl _ _⟩
      · have b1 : (bs == [49]) = false := by rw [beq_eq_false_iff_ne]; exact e1
        have HSY : Hid (∀ f, Says n bs f → ∃ ms, Txt n ms ∧ ms ≠ [] ∧ bs = rend ms ∧ f = tb n ms (ms.length + 1)) := by
          intro f hf
          rcases hf with ⟨h, _⟩ | ⟨h, _⟩ | h
          · exact absurd h e0
          · exact absurd h e1
          · exact h
        have HC : Hid (Cols w) := hc
        clear e0 e1 hc
        go_enter Tryd.func14, Tryd.ntmps14
        go_wp2_with fail
        go_loopw [] (fun wr => ∃ (k : Nat) (v : Value) (ns : List Nd), Hid (Rdr wr w.heap.size bs n k v ns) ∧ Hid (Sofar n bs k ns) ∧ Hid (Below w.heap.size w wr)) (fun wr => bs.length - atOf wr w.heap.size)
        case atStart =>
          refine ⟨0, .slice none 0 0, [], ⟨heap_res _ _, World.ownsRow_nil _ _ _ _⟩, sofar0 n bs, (Below.refl _ _).alloc (Nat.le_refl _) _⟩
        case round =>
          obtain ⟨k, v, ns, RD, SF, BW⟩ := hrel
          obtain ⟨ao, cap, rfl⟩ := RD.out.slice
          have hkl := SF.out.le
          have c0 : wr.cell? ⟨w.heap.size, 0, none⟩ = some (.string ⟨bs.toArray⟩) := cell_of_block RD.out.blk 0
          have c1 : wr.cell? ⟨w.heap.size, 1, none⟩ = some (.int .i64 (k : Nat)) := cell_of_block RD.out.blk 1
          have c3 : wr.cell? ⟨w.heap.size, 3, none⟩ = some (.slice ao ns.length cap) := cell_of_block RD.out.blk 3
          have hlt := RD.out.lt
          by_cases hk : k < bs.length
          · have hns : ns.length ≤ 400 := by have h1 := rend_ge ns; have h2 := SF.out.len; omega
            have KI : Hid (Calls Tryd.prog 25 #[.pointer (some ⟨w.heap.size, 0, none⟩)] wr fun e w' => ∃ (ok : Bool) (k' : Nat) (v' : Value) (ms : List Nd), e = .returned (.bool ok) ∧ ItemAt n bs ns k ok k' ms ∧ (ok = true → Rdr w' w.heap.size bs n k' v' ms) ∧ Below w.heap.size wr w') :=
              item_walk w.heap.size n k bs _ ns wr RD.out h2k hns hn SF.out.txt (HC.out.below BW.out (cols_pos HC.out)) (cols_pos HC.out)
            go_wp2_with fail
            refine KI.out.mono ?_
            rintro e w1 ⟨ok, k', v', ms, rfl, it, hr, b1⟩
            have B1 : Hid (Below w.heap.size w w1) := low_trans BW.out b1
            cases ok with
            | false =>
              have HA : Hid (RdA n bs (.returned (.tuple #[.int .u64 0, .bool false]))) := rda_no (fun f hf => by
                obtain ⟨ms, h1, _, h2, _⟩ := HSY.out f hf
                obtain ⟨x, r, h3, h4⟩ := sofar_next hn SF.out hk h1 h2
                exact it.no rfl x r h3 h4)
              clear hr it KI
              go_wp2_with fail
              go_ret2
              exact ⟨HA.out, B1.out⟩
            | true =>
              obtain ⟨x, r, h1, h2, rfl, rfl⟩ := it.yes rfl
              have R1 : Hid _ := hr rfl
              have S1 : Hid (Sofar n bs (k + (itm x).length) (ns ++ [x])) := sofar_more SF.out h2 h1
              have HP : Hid (0 < (itm x).length) := List.length_pos_iff.2 (Cho.itm_ne x)
              have A0 : Hid (atOf wr w.heap.size = k) := RD.out.at'
              have A1 : Hid (atOf w1 w.heap.size = k + (itm x).length) := R1.out.at'
              clear it hr h1 h2 KI
              go_wp2_with fail
              exact ⟨⟨_, _, _, R1, S1, B1⟩, by rw [A0.out, A1.out]; have := HP.out; omega⟩
          · have HB : Hid (bs = rend ns) := by
              have h1 := SF.out.eq
              rw [List.drop_eq_nil_of_le (by omega), List.append_nil] at h1
              exact h1.symm
            by_cases hz : ns.length = 0
            · have HA : Hid (RdA n bs (.returned (.tuple #[.int .u64 0, .bool false]))) := rda_no (fun f hf => by
                obtain ⟨ms, h1, h2, h3, _⟩ := HSY.out f hf
                have h4 := Cho.rend_len3 h2
                have h5 := congrArg List.length HB.out
                rw [List.eq_nil_of_length_eq_zero hz, Cho.rend_nil] at h5
                have h6 := congrArg List.length h3
                simp only [List.length_nil] at h5
                omega)
              have hz' : ((ns.length : Nat) : Int) = 0 := by omega
              go_wp2_with fail
              go_ret2
              exact ⟨HA.out, BW.out⟩
            · obtain ⟨g, rfl, i1, i2⟩ := row_item RD.out (show ns.length - 1 < ns.length by omega)
              rw [show ns.length - 1 + 2 = ns.length + 1 from by omega] at i2
              have hns : ns.length ≤ 400 := by have h1 := rend_ge ns; have h2 := SF.out.len; omega
              have HA : Hid (RdA n bs (.returned (.tuple #[.int .u64 (tb n ns (ns.length + 1) : Nat), .bool true]))) := rda_yes hn h2k (.inr (.inr ⟨ns, SF.out.txt, fun e => hz (by rw [e]; rfl), HB.out, rfl⟩))
              generalize tb n ns (ns.length + 1) = tt at *
              clear i1 RD
              generalize ns.length = L at *
              obtain ⟨m, rfl⟩ : ∃ m, L = m + 1 := ⟨L - 1, by omega⟩
              rw [show m + 1 - 1 = m from rfl] at i2
              clear hz
              go_wp2_with fail
              go_ret2
              exact ⟨HA.out, BW.out⟩
  · have HA : Hid (RdA n bs (.returned (.tuple #[.int .u64 0, .bool false]))) := .inr ⟨Cho.readT_none (fun h => h2k h.1), rfl⟩
    have h2 : ¬ (bs.length : Int) ≤ 2000 := by omega
    clear hc
    go_enter Tryd.func14, Tryd.ntmps14
    go_wp2_with fail
    go_ret2
    exact ⟨HA.out, Below.refl _ _⟩
end Go.Proofs.YthoodkbdpnffdabDoor
