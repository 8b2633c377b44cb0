/-
  Own work: the document's answer: Export (a walk).
-/
import Derived.Test.YthoodkbdpnffdabGreatDoorRefItem
import Derived.Test.YthoodkbdpnffdabGreatDoorRefO
import Derived.Test.YthoodkbdpnffdabGreatDoorRefZ
import Derived.Deep.RegionHeld3
namespace Go.Proofs.YthoodkbdpnffdabGreatDoor
open Go.RowKit
open Cho (U64 Tab full col decL dgt Nd Red lnk rend tb itm sup Low textOf nodesOf)

set_option maxRecDepth 100000 in
set_option maxHeartbeats 1000000 in
theorem rexport_none (B y a : Nat) (r : RSt) (rv ov : Value) (w : World) (hr : RefAt B w y r rv ov) (ha : r.get a = none) :
    Calls Tryz.prog 64 #[.pointer (some ⟨y, 0, none⟩), .int .u32 a] w fun e w' => e = .returned (.tuple #[txt [], .int .i64 2]) ∧ w' = w := by
  have KF : Hid (Calls Tryz.prog 82 #[.pointer (some ⟨y, 0, none⟩), .int .u32 a] w fun e w' => e = .returned (.int .i64 (-1)) ∧ w' = w) := rfind_no B y a r rv ov w hr (get_none ha)
  clear hr ha
  go_enter Tryz.func64, Tryz.ntmps64
  go_wp2_with fail
  refine KF.out.mono ?_
  rintro e w1 ⟨rfl, rfl⟩
  go_wp2_with fail
  go_ret2
  exact ⟨rfl, rfl⟩

set_option maxRecDepth 100000 in
set_option maxHeartbeats 1000000 in
theorem rexport_some (B y a f : Nat) (r : RSt) (rv ov : Value) (w : World) (hr : RefAt B w y r rv ov) (ha : r.get a = some f) :
    Calls Tryz.prog 64 #[.pointer (some ⟨y, 0, none⟩), .int .u32 a] w fun e w' => e = .returned (.tuple #[txt (textOf r.n f), .int .i64 0]) ∧ Below w.heap.size w w' := by
  have HR : Hid (RefAt B w y r rv ov) := hr
  have HA : Hid (r.get a = some f) := ha
  have ht := get_tab hr.ok ha
  have n6 := hr.ok.n6
  have n1 := hr.ok.n1
  have KO : Hid (∀ W, Below w.heap.size w W → Calls Tryz.prog 76 #[.pointer (some ⟨y, 0, none⟩), .int .u32 a] W fun e w' => e = .returned (.int .u64 (f : Nat)) ∧ Below w.heap.size w w') := fun W hW =>
    (rof_get B y a f r rv ov W (hr.below hW) ha).mono (fun e w' ⟨h1, q, h2⟩ => ⟨h1, by rw [h2]; exact below_trans hW (below_dr _ _)⟩)
  have KF : Hid (∀ W, Below w.heap.size w W → Calls Tryz.prog 68 #[.pointer (some ⟨y, 0, none⟩)] W fun e w' => e = .returned (.int .u64 (full r.n : Nat)) ∧ w' = W) := fun W hW => rfull_calls y r.n W (hr.below hW).c0 n6
  have hU := (ht.u64 n6).lt
  have hUF := (Cho.full_u64 r.n n6).lt
  have KI : Hid (∀ W, Below w.heap.size w W → Calls Tryz.prog 111 #[.pointer (some ⟨W.heap.size, 0, none⟩), .int .u64 f, .int .i64 ((0 : Nat) : Int)] (W.alloc (.cells #[.pointer (some ⟨y, 0, none⟩), .slice none 0 0, .string ⟨#[]⟩] 143)) fun e w' => e = .returned (.tuple #[]) ∧ Wrote W w' W.heap.size y r.n (nodesOf r.n f)) := by
    intro W hW
    refine ritem_calls r.n (r.n - 0) 0 rfl (Nat.zero_le _) W _ W.heap.size y f (.slice none 0 0) [] ?_ ht (Cho.low0 _ _) ?_
    · exact ⟨heap_res _ _, World.ownsRow_nil _ _ _ _, below_alloc _ _, Nat.le_refl _, (hr.below hW).c0, n1, n6, Red.nil _, by simp⟩
    · exact Cho.nodes_63 n6
  clear hr ha
  by_cases f0 : f = 0
  · subst f0
    have HT : Hid (textOf r.n 0 = [48]) := if_pos rfl
    clear KI KF
    go_enter Tryz.func64, Tryz.ntmps64
    go_wp2_with fail
    refine (rfind_some B y a 0 r _ _ _ HR.out HA.out).mono ?_
    rintro e w1 ⟨⟨j, hj, rfl⟩, rfl⟩
    go_wp2_with fail
    refine (KO.out _ (Below.refl _ _)).mono ?_
    rintro e w2 ⟨rfl, b2⟩
    have B2 : Hid _ := b2
    clear b2
    go_wp2_with fail
    go_ret2
    rw [HT.out]
    exact ⟨rfl, B2.out⟩
  · have hb0 : ((f : Int) == 0) = false := by simp; omega
    by_cases f1 : f = full r.n
    · have HT : Hid (textOf r.n f = [49]) := by show textOf r.n f = [49]; unfold textOf; rw [if_neg f0, if_pos f1]
      have KF2 : Hid (∀ W, Below w.heap.size w W → Calls Tryz.prog 68 #[.pointer (some ⟨y, 0, none⟩)] W fun e w' => e = .returned (.int .u64 (f : Nat)) ∧ w' = W) := by rw [f1]; exact KF.out
      clear KI KF f1
      go_enter Tryz.func64, Tryz.ntmps64
      go_wp2_with fail
      refine (rfind_some B y a f r _ _ _ HR.out HA.out).mono ?_
      rintro e w1 ⟨⟨j, hj, rfl⟩, rfl⟩
      go_wp2_with fail
      refine (KO.out _ (Below.refl _ _)).mono ?_
      rintro e w2 ⟨rfl, b2⟩
      have B2 : Hid _ := b2
      clear b2
      go_wp2_with fail
      refine (KF2.out _ B2.out).mono ?_
      rintro e w3 ⟨rfl, rfl⟩
      go_wp2_with fail
      go_ret2
      rw [HT.out]
      exact ⟨rfl, B2.out⟩
    · have HT : Hid (textOf r.n f = rend (nodesOf r.n f)) := by show textOf r.n f = _; unfold textOf; rw [if_neg f0, if_neg f1]
      have hb1 : ((f : Int) == (full r.n : Nat)) = false := by simp; omega
      generalize full r.n = F at *
      go_enter Tryz.func64, Tryz.ntmps64
      go_wp2_with fail
      refine (rfind_some B y a f r _ _ _ HR.out HA.out).mono ?_
      rintro e w1 ⟨⟨j, hj, rfl⟩, rfl⟩
      go_wp2_with fail
      refine (KO.out _ (Below.refl _ _)).mono ?_
      rintro e w2 ⟨rfl, b2⟩
      have B2 : Hid _ := b2
      clear b2
      go_wp2_with fail
      refine (KF.out _ B2.out).mono ?_
      rintro e w3 ⟨rfl, rfl⟩
      go_wp2_with fail
      refine (KI.out _ B2.out).mono ?_
      rintro e w4 ⟨rfl, v4, h4⟩
      have H4 : Hid _ := h4
      have c2 : w4.cell? ⟨w3.heap.size, 2, none⟩ = some (txt (rend (nodesOf r.n f))) := cell_of_block h4.blk 2
      have HB4 : Hid (Below w1.heap.size w1 w4) := below_trans B2.out h4.bel
      clear h4
      unfold txt at c2
      go_wp2_with fail
      go_ret2
      rw [HT.out]
      exact ⟨rfl, HB4.out⟩
theorem rexport_calls (B y a : Nat) (r : RSt) (rv ov : Value) (w : World) (hr : RefAt B w y r rv ov) :
    Calls Tryz.prog 64 #[.pointer (some ⟨y, 0, none⟩), .int .u32 a] w fun e w' => e = .returned (.tuple #[txt (expA r.n (r.get a)).1, .int .i64 ((expA r.n (r.get a)).2 : Nat)]) ∧ Below w.heap.size w w' := by
  cases ha : r.get a with
  | none =>
    refine (rexport_none B y a r rv ov w hr ha).mono ?_
    rintro e w' ⟨rfl, rfl⟩
    exact ⟨rfl, Below.refl _ _⟩
  | some f => exact rexport_some B y a f r rv ov w hr ha
end Go.Proofs.YthoodkbdpnffdabGreatDoor

/-
  Own work: the document's answer: where a sign stands in a text (a walk).
-/
namespace Go.Proofs.YthoodkbdpnffdabGreatDoor
open Go.RowKit
open Cho (U64 Tab full col decL dgt)

/-- The place of the first sign of a kind from a place on; the length, if there is none. -/
def untl (bs : List UInt8) (k : Nat) (c : UInt8) : Nat := k + ((bs.drop k).takeWhile (· != c)).length

theorem tw_len {c : UInt8} : ∀ (l : List UInt8) (m : Nat), m ≤ l.length → (∀ i (hi : i < l.length), i < m → l[i] ≠ c) → (∀ h : m < l.length, l[m] = c) → (l.takeWhile (· != c)).length = m := by
  intro l
  induction l with
  | nil => intro m h _ _; simp at h; subst h; rfl
  | cons x l ih =>
    intro m hm h1 h2
    cases m with
    | zero =>
      have : x = c := h2 (by simp)
      simp [this]
    | succ m =>
      have hx : x ≠ c := h1 0 (by simp) (by omega)
      have hb : (x != c) = true := by simpa using hx
      rw [List.takeWhile_cons, if_pos hb, List.length_cons, ih m (by simpa using hm) (fun i hi him => h1 (i + 1) (by simpa using hi) (by omega)) (fun h => h2 (by simpa using h))]
theorem untl_eq {bs : List UInt8} {k j : Nat} {c : UInt8} (hkj : k ≤ j) (hj : j ≤ bs.length) (h1 : ∀ i (hi : i < bs.length), k ≤ i → i < j → bs[i] ≠ c) (h2 : ∀ h : j < bs.length, bs[j] = c) : untl bs k c = j := by
  unfold untl
  rw [tw_len (bs.drop k) (j - k) (by simp; omega)]
  · omega
  · intro i hi him
    rw [List.getElem_drop]
    exact h1 (k + i) (by simp at hi; omega) (by omega) (by omega)
  · intro h
    rw [List.getElem_drop]
    have := h2 (by simp at h; omega)
    simpa [show k + (j - k) = j from by omega] using this
theorem untl_le (bs : List UInt8) (k : Nat) (c : UInt8) (hk : k ≤ bs.length) : k ≤ untl bs k c ∧ untl bs k c ≤ bs.length := by
  have := List.takeWhile_sublist (p := (· != c)) (l := bs.drop k) |>.length_le
  unfold untl
  simp at this ⊢; omega
/-- Where a part without the sign stands ahead of it. -/
theorem untl_at {bs a r : List UInt8} {k : Nat} {c : UInt8} (h : bs.drop k = a ++ c :: r) (ha : ∀ x ∈ a, x ≠ c) : untl bs k c = k + a.length := by
  unfold untl
  rw [h, List.takeWhile_append_of_pos (fun x hx => by simpa using ha x hx)]
  simp

set_option maxRecDepth 100000 in
set_option maxHeartbeats 400000 in
theorem runtil_calls (bs : List UInt8) (k : Nat) (c : UInt8) (w : World) (hk : k ≤ bs.length) (hl : bs.length ≤ 9223372036854775807) :
    Calls Tryz.prog 123 #[txt bs, .int .i64 k, .int .u8 (c.toNat : Nat)] w fun e w' => e = .returned (.int .i64 (untl bs k c : Nat)) ∧ w' = w := by
  unfold txt
  have hsz : (ByteArray.mk bs.toArray).size = bs.length := txt_size bs
  go_enter Tryz.func123, Tryz.ntmps123
  go_wp2_with fail
  go_loopw [1] (fun x1 wr => ∃ j : Nat, k ≤ j ∧ j ≤ bs.length ∧ x1 = .int .i64 j ∧ wr = w ∧ Hid (∀ i (hi : i < bs.length), k ≤ i → i < j → bs[i] ≠ c)) (fun x1 _ => bs.length - (intOf x1).toNat)
  case atStart => exact ⟨k, Nat.le_refl _, hk, rfl, rfl, fun i hi h1 h2 => by omega⟩
  case round =>
    obtain ⟨j, hkj, hj, rfl, rfl, HN⟩ := hrel
    by_cases hlt : j < bs.length
    · have hbx : (ByteArray.mk bs.toArray)[j]'(by rw [hsz]; exact hlt) = bs[j] := by simp [ByteArray.getElem_eq_getElem_data]
      by_cases hc : bs[j] = c
      · have HE : Hid (untl bs k c = j) := untl_eq hkj hj HN.out (fun _ => hc)
        go_wp2_with fail
        go_ret
        rw [HE.out]
        exact ⟨rfl, rfl⟩
      · have HN2 : Hid (∀ i (hi : i < bs.length), k ≤ i → i < j + 1 → bs[i] ≠ c) := fun i hi h1 h2 => by
          by_cases e : i = j
          · subst e; exact hc
          · exact HN.out i hi h1 (by omega)
        have hne : (((bs[j]).toNat : Int) != (c.toNat : Int)) = true := by
          simp
          intro e
          exact hc (UInt8.toNat_inj.1 (by omega))
        generalize bs[j] = x at *
        go_wp2_with fail
        exact ⟨⟨j + 1, by omega, hlt, by go_num, trivial, HN2⟩, by simp [intOf]; omega⟩
    · have HE : Hid (untl bs k c = j) := untl_eq hkj hj HN.out (fun h => absurd h hlt)
      go_wp2_with fail
      go_ret
      rw [HE.out]
      exact ⟨rfl, rfl⟩
end Go.Proofs.YthoodkbdpnffdabGreatDoor

/-
  Own work: the document's answer: what a link in a text says (a walk).
-/
namespace Go.Proofs.YthoodkbdpnffdabGreatDoor
open Go.RowKit
open Cho (U64 Tab full col decL dgt Nd Red lnk tb)

/-- The items that were read, as they lie. -/
structure RowT (w : World) (v : Value) (n : Nat) (ns : List Nd) : Prop where
  ex : ∃ ao cap, v = .slice ao ns.length cap ∧ ∀ i (hi : i < ns.length), ∃ g, ao = some ⟨g, 0, none⟩ ∧ w.cell? ⟨g, i * 2, none⟩ = some (.int .i64 (ns[i].1 : Nat)) ∧ w.cell? ⟨g, i * 2 + 1, none⟩ = some (.int .u64 (tb n ns (i + 2) : Nat))
theorem ext_txt (bs : List UInt8) (a e : Nat) : (ByteArray.mk bs.toArray).extract a e = ByteArray.mk ((bs.take e).drop a).toArray := by
  rw [ByteArray.extract_mk]
  congr 1
  simp [List.drop_take]

set_option maxRecDepth 100000 in
set_option maxHeartbeats 1000000 in
theorem rlinked_n (y n a e : Nat) (bs : List UInt8) (lv' : Value) (w : World) (h0 : w.cell? ⟨y, 0, none⟩ = some (.int .i64 n)) (hae : a ≤ e) (he : e ≤ bs.length) (hu : (bs.take e).drop a = [110]) :
    Calls Tryz.prog 124 #[.pointer (some ⟨y, 0, none⟩), txt bs, .int .i64 a, .int .i64 e, lv'] w fun x w' => x = .returned (.tuple #[.int .u64 0, .int .i64 n, .bool true]) ∧ Below w.heap.size w w' := by
  unfold txt
  have hsz : (ByteArray.mk bs.toArray).size = bs.length := txt_size bs
  have hex := ext_txt bs a e
  rw [hu] at hex
  go_enter Tryz.func124, Tryz.ntmps124
  go_wp2_with fail
  go_region_held3 (fun w' => w'.cell? ⟨y, 0, none⟩ = some (.int .i64 n)) (first | exact h0 | go_keep) (fail)
  all_goals
    go_wp2_with fail
    go_ret3
    exact ⟨rfl, drew_below _⟩

set_option maxRecDepth 100000 in
set_option maxHeartbeats 1000000 in
theorem rlinked_y (y n a e : Nat) (bs : List UInt8) (lv' : Value) (w : World) (h0 : w.cell? ⟨y, 0, none⟩ = some (.int .i64 n)) (hn : n ≤ 6) (hae : a ≤ e) (he : e ≤ bs.length) (hu : (bs.take e).drop a = [121]) :
    Calls Tryz.prog 124 #[.pointer (some ⟨y, 0, none⟩), txt bs, .int .i64 a, .int .i64 e, lv'] w fun x w' => x = .returned (.tuple #[.int .u64 (full n : Nat), .int .i64 n, .bool true]) ∧ Below w.heap.size w w' := by
  unfold txt
  have hsz : (ByteArray.mk bs.toArray).size = bs.length := txt_size bs
  have hex := ext_txt bs a e
  rw [hu] at hex
  have KF : Hid (Calls Tryz.prog 68 #[.pointer (some ⟨y, 0, none⟩)] w.drew fun e w' => e = .returned (.int .u64 (full n : Nat)) ∧ w' = w.drew) := rfull_calls y n w.drew (cell_below h0 (drew_below _)) hn
  go_enter Tryz.func124, Tryz.ntmps124
  go_wp2_with fail
  go_region_held3 (fun w' => w'.cell? ⟨y, 0, none⟩ = some (.int .i64 n)) (first | exact h0 | go_keep) (first | (go_at_call 68; refine KF.out.mono ?_; rintro e w1 ⟨rfl, rfl⟩))
  all_goals
    go_wp2_with fail
    go_ret3
    exact ⟨rfl, drew_below _⟩

set_option maxRecDepth 100000 in
set_option maxHeartbeats 1000000 in
theorem rlinked_item (y n a e j : Nat) (bs : List UInt8) (v : Value) (ns : List Nd) (w : World) (hae : a ≤ e) (he : e ≤ bs.length) (hr : RowT w v n ns) (hj : j < ns.length) (hns : ns.length ≤ 1000) (hu : (bs.take e).drop a = decL j) :
    Calls Tryz.prog 124 #[.pointer (some ⟨y, 0, none⟩), txt bs, .int .i64 a, .int .i64 e, v] w fun x w' => x = .returned (.tuple #[.int .u64 (tb n ns (j + 2) : Nat), .int .i64 (ns[j].1 : Nat), .bool true]) ∧ Below w.heap.size w w' := by
  unfold txt
  have hsz : (ByteArray.mk bs.toArray).size = bs.length := txt_size bs
  have hex := ext_txt bs a e
  obtain ⟨ao, cap, rfl, hc⟩ := hr.ex
  have HC : Hid (∀ W, Below w.heap.size w W → ∃ g, ao = some ⟨g, 0, none⟩ ∧ W.cell? ⟨g, j * 2, none⟩ = some (.int .i64 (ns[j].1 : Nat)) ∧ W.cell? ⟨g, j * 2 + 1, none⟩ = some (.int .u64 (tb n ns (j + 2) : Nat))) := fun W hW => by
    obtain ⟨g, h1, h2, h3⟩ := hc j hj
    exact ⟨g, h1, cell_below h2 hW, cell_below h3 hW⟩
  have KD : Hid (∀ i W, i ≤ j → Below w.heap.size w W → Calls Tryz.prog 128 #[.int .i64 (i : Nat)] W fun e w' => e = .returned (.string ⟨(decL i).toArray⟩) ∧ Below w.heap.size w w') := fun i W hi hW => (rdecimal_calls i (by omega) W).mono (fun e w' ⟨h1, h2⟩ => ⟨h1, below_trans hW h2⟩)
  have HNE : Hid (∀ i, i < j → ((bs.take e).drop a == decL i) = false) := fun i hi => by
    rw [hu, beq_eq_false_iff_ne]
    intro e
    have := Cho.decL_inj _ _ e; omega
  have HEQ : Hid (((bs.take e).drop a == decL j) = true) := by show ((bs.take e).drop a == decL j) = true; rw [hu]; simp
  have hn0 : ((bs.take e).drop a == [110]) = false := by
    rw [hu, beq_eq_false_iff_ne]; intro e
    have := Cho.decL_digit j 110 (by rw [e]; simp)
    simp at this
  have hn1 : ((bs.take e).drop a == [121]) = false := by
    rw [hu, beq_eq_false_iff_ne]; intro e
    have := Cho.decL_digit j 121 (by rw [e]; simp)
    simp at this
  clear hr hc hu
  generalize (bs.take e).drop a = U at *
  go_enter Tryz.func124, Tryz.ntmps124
  go_wp2_with fail
  go_loopw [14] (fun x wr => ∃ i : Nat, i ≤ j ∧ x = .int .i64 i ∧ Hid (Below w.heap.size w wr)) (fun x _ => j - (intOf x).toNat)
  case atStart => exact ⟨0, Nat.zero_le _, rfl, Below.refl _ _⟩
  case round =>
    obtain ⟨i, hi, rfl, BW⟩ := hrel
    have hil : (i : Int) < (ns.length : Int) := by omega
    by_cases hij : i < j
    · have hne := HNE.out i hij
      go_wp2_with fail
      refine (KD.out i wr hi BW.out).mono ?_
      rintro e w1 ⟨rfl, b1⟩
      have B1 : Hid _ := b1
      clear b1
      generalize decL i = Di at *
      go_wp2_with fail
      exact ⟨⟨i + 1, hij, by go_num, B1⟩, by simp [intOf]; omega⟩
    · have hij' : i = j := by omega
      subst hij'
      have heq := HEQ.out
      go_wp2_with fail
      refine (KD.out i wr hi BW.out).mono ?_
      rintro e w1 ⟨rfl, b1⟩
      have B1 : Hid _ := b1
      clear b1
      generalize decL i = Di at *
      obtain ⟨g, rfl, h2, h3⟩ := HC.out w1 B1.out
      have BF : Hid (Below w.heap.size w w1.drew) := below_trans B1.out (drew_below _)
      generalize htt : tb n ns (i + 2) = tt at *
      generalize hvv : ns[i].1 = vv at *
      have HTT : Hid (tb n ns (i + 2) = tt ∧ ns[i].1 = vv) := ⟨htt, hvv⟩
      clear htt hvv
      have hi0 : (0 : Int) ≤ (i : Int) := by omega
      go_wp2_with fail
      go_region_held3 (fun w' => w'.cell? ⟨g, i * 2, none⟩ = some (.int .i64 (vv : Nat)) ∧ w'.cell? ⟨g, i * 2 + 1, none⟩ = some (.int .u64 (tt : Nat))) (first | exact ⟨h2, h3⟩ | go_keep) (fail)
      all_goals
        go_wp2_with fail
        go_ret3
        rw [HTT.out.1, HTT.out.2]
        exact ⟨rfl, BF.out⟩

set_option maxRecDepth 100000 in
set_option maxHeartbeats 1000000 in
theorem rlinked_no (y n a e : Nat) (bs : List UInt8) (v : Value) (ns : List Nd) (w : World) (hae : a ≤ e) (he : e ≤ bs.length) (hr : RowT w v n ns) (hns : ns.length ≤ 1000) (hu : ∀ l, l < ns.length + 2 → (bs.take e).drop a ≠ lnk l) :
    Calls Tryz.prog 124 #[.pointer (some ⟨y, 0, none⟩), txt bs, .int .i64 a, .int .i64 e, v] w fun x w' => x = .returned (.tuple #[.int .u64 0, .int .i64 0, .bool false]) ∧ Below w.heap.size w w' := by
  unfold txt
  have hsz : (ByteArray.mk bs.toArray).size = bs.length := txt_size bs
  have hex := ext_txt bs a e
  obtain ⟨ao, cap, rfl, hc⟩ := hr.ex
  have KD : Hid (∀ i W, i < ns.length → Below w.heap.size w W → Calls Tryz.prog 128 #[.int .i64 (i : Nat)] W fun e w' => e = .returned (.string ⟨(decL i).toArray⟩) ∧ Below w.heap.size w w') := fun i W hi hW => (rdecimal_calls i (by omega) W).mono (fun e w' ⟨h1, h2⟩ => ⟨h1, below_trans hW h2⟩)
  have HNE : Hid (∀ i, i < ns.length → ((bs.take e).drop a == decL i) = false) := fun i hi => by
    rw [beq_eq_false_iff_ne]
    intro e
    refine hu (i + 2) (by omega) ?_
    unfold lnk
    rw [if_neg (by omega), if_neg (by omega), show i + 2 - 2 = i from by omega]; exact e
  have hn0 : ((bs.take e).drop a == [110]) = false := by
    rw [beq_eq_false_iff_ne]; intro e
    exact hu 0 (by omega) e
  have hn1 : ((bs.take e).drop a == [121]) = false := by
    rw [beq_eq_false_iff_ne]; intro e
    exact hu 1 (by omega) e
  clear hr hc hu
  generalize (bs.take e).drop a = U at *
  go_enter Tryz.func124, Tryz.ntmps124
  go_wp2_with fail
  go_loopw [14] (fun x wr => ∃ i : Nat, i ≤ ns.length ∧ x = .int .i64 i ∧ Hid (Below w.heap.size w wr)) (fun x _ => ns.length - (intOf x).toNat)
  case atStart => exact ⟨0, Nat.zero_le _, rfl, Below.refl _ _⟩
  case round =>
    obtain ⟨i, hi, rfl, BW⟩ := hrel
    by_cases hij : i < ns.length
    · have hne := HNE.out i hij
      go_wp2_with fail
      refine (KD.out i wr hij BW.out).mono ?_
      rintro e w1 ⟨rfl, b1⟩
      have B1 : Hid _ := b1
      clear b1
      generalize decL i = Di at *
      go_wp2_with fail
      exact ⟨⟨i + 1, hij, by go_num, B1⟩, by simp [intOf]; omega⟩
    · go_wp2_with fail
      go_ret3
      exact ⟨rfl, BW.out⟩
/-- What a link says. -/
theorem rlinked_yes (y n a e l : Nat) (bs : List UInt8) (v : Value) (ns : List Nd) (w : World) (h0 : w.cell? ⟨y, 0, none⟩ = some (.int .i64 n)) (hn : n ≤ 6) (hae : a ≤ e) (he : e ≤ bs.length) (hr : RowT w v n ns) (hl : l < ns.length + 2) (hns : ns.length ≤ 1000) (hu : (bs.take e).drop a = lnk l) :
    Calls Tryz.prog 124 #[.pointer (some ⟨y, 0, none⟩), txt bs, .int .i64 a, .int .i64 e, v] w fun x w' => x = .returned (.tuple #[.int .u64 (tb n ns l : Nat), .int .i64 (vr n ns l : Nat), .bool true]) ∧ Below w.heap.size w w' := by
  by_cases l0 : l = 0
  · subst l0
    have := rlinked_n y n a e bs v w h0 hae he hu
    rw [Cho.tb_zero]
    exact this
  · by_cases l1 : l = 1
    · subst l1
      have := rlinked_y y n a e bs v w h0 hn hae he hu
      rw [Cho.tb_one]
      exact this
    · obtain ⟨j, rfl⟩ : ∃ j, l = j + 2 := ⟨l - 2, by omega⟩
      have hj : j < ns.length := by omega
      have e1 : lnk (j + 2) = decL j := by unfold lnk; rw [if_neg (by omega), if_neg (by omega), show j + 2 - 2 = j from by omega]
      have e2 : vr n ns (j + 2) = ns[j].1 := by
        unfold vr
        rw [if_neg (by omega), show j + 2 - 2 = j from by omega]
        simp [List.getD, hj]
      rw [e2]
      exact rlinked_item y n a e j bs v ns w hae he hr hj hns (by rw [hu, e1])
end Go.Proofs.YthoodkbdpnffdabGreatDoor

/-
  Own work: one item at a place of a text: where its signs stand (plain mathematics).
-/
namespace Go.Proofs.YthoodkbdpnffdabGreatDoor
open Cho (Tab full decL dgt Nd Red lnk tb itm rend Txt Says)

theorem tw_stop {c : UInt8} : ∀ (l : List UInt8) (h : (l.takeWhile (· != c)).length < l.length), l[(l.takeWhile (· != c)).length] = c := by
  intro l
  induction l with
  | nil => intro h; simp at h
  | cons x l ih =>
    intro h
    by_cases hx : x = c
    · subst hx; simp
    · have hb : (x != c) = true := by simpa using hx
      simp only [List.takeWhile_cons, hb, if_true, List.length_cons] at h ⊢
      simpa using ih (by simpa using h)
theorem untl_stop {bs : List UInt8} {k : Nat} {c : UInt8} (h : untl bs k c < bs.length) : bs[untl bs k c] = c := by
  have h1 : ((bs.drop k).takeWhile (· != c)).length < (bs.drop k).length := by unfold untl at h; simp; omega
  have := tw_stop (bs.drop k) h1
  rw [List.getElem_drop] at this
  exact this
theorem dgt_sign {v : Nat} (hv : v < 10) : dgt v ≠ 44 ∧ dgt v ≠ 59 := by
  have := Cho.dgt_toNat hv
  constructor
  · intro e; rw [e] at this; simp at this; omega
  · intro e; rw [e] at this; simp at this; omega
theorem drop_mid {bs : List UInt8} {a b : Nat} (h : a ≤ b) (hb : b ≤ bs.length) : bs.drop a = (bs.take b).drop a ++ bs.drop b := by
  conv => lhs; rw [← List.take_append_drop b bs]
  rw [List.drop_append_of_le_length (by simp; omega)]
/-- What is known where an item stands. -/
structure Item (bs : List UInt8) (k : Nat) (x : Nd) (r : List UInt8) : Prop where
  at' : bs[k]? = some (dgt x.1)
  mid : untl bs k 44 = k + 1 + (lnk x.2.1).length
  fin : untl bs k 59 = k + 1 + (lnk x.2.1).length + 1 + (lnk x.2.2).length
  lt : untl bs k 59 < bs.length
  no : (bs.take (untl bs k 44)).drop (k + 1) = lnk x.2.1
  yes : (bs.take (untl bs k 59)).drop (untl bs k 44 + 1) = lnk x.2.2
  rest : bs.drop (untl bs k 59 + 1) = r
theorem item_only {bs r : List UInt8} {k : Nat} {x : Nd} (hx : x.1 < 10) (hk : k ≤ bs.length) (h : bs.drop k = itm x ++ r) : Item bs k x r := by
  have hd := dgt_sign hx
  have hL := congrArg List.length h
  have hlen : (itm x).length = 1 + (lnk x.2.1).length + 1 + (lnk x.2.2).length + 1 := by simp [itm]; omega
  rw [List.length_append, hlen, List.length_drop] at hL
  have e1 : bs.drop k = (dgt x.1 :: lnk x.2.1) ++ 44 :: (lnk x.2.2 ++ 59 :: r) := by rw [h]; simp [itm]
  have e2 : bs.drop k = (dgt x.1 :: (lnk x.2.1 ++ 44 :: lnk x.2.2)) ++ 59 :: r := by rw [h]; simp [itm]
  have hm : untl bs k 44 = k + 1 + (lnk x.2.1).length := by
    rw [untl_at e1 (fun z hz => by
      rcases List.mem_cons.1 hz with rfl | hz
      · exact hd.1
      · exact (Cho.lnk_sign _ z hz).1)]
    simp; omega
  have he : untl bs k 59 = k + 1 + (lnk x.2.1).length + 1 + (lnk x.2.2).length := by
    rw [untl_at e2 (fun z hz => by
      rcases List.mem_cons.1 hz with rfl | hz
      · exact hd.2
      · rcases List.mem_append.1 hz with hz | hz
        · exact (Cho.lnk_sign _ z hz).2
        · rcases List.mem_cons.1 hz with rfl | hz
          · decide
          · exact (Cho.lnk_sign _ z hz).2)]
    simp; omega
  have dk : ∀ j, bs.drop (k + j) = (itm x ++ r).drop j := fun j => by rw [← h, List.drop_drop]
  refine ⟨?_, hm, he, by omega, ?_, ?_, ?_⟩
  · have := List.getElem?_drop (xs := bs) (i := k) (j := 0)
    rw [h] at this
    simp [itm] at this
    rw [← this]
  · rw [hm, List.drop_take, dk 1]
    have : (itm x ++ r).drop 1 = lnk x.2.1 ++ 44 :: (lnk x.2.2 ++ 59 :: r) := by simp [itm]
    rw [this, show k + 1 + (lnk x.2.1).length - (k + 1) = (lnk x.2.1).length from by omega]
    simp
  · rw [hm, he, List.drop_take, show k + 1 + (lnk x.2.1).length + 1 = k + (1 + (lnk x.2.1).length + 1) from by omega, dk]
    have : (itm x ++ r).drop (1 + (lnk x.2.1).length + 1) = lnk x.2.2 ++ 59 :: r := by
      rw [show itm x ++ r = (dgt x.1 :: (lnk x.2.1 ++ [44])) ++ (lnk x.2.2 ++ 59 :: r) from by simp [itm], List.drop_left' (by simp; omega)]
    rw [this, show k + (1 + (lnk x.2.1).length + 1) + (lnk x.2.2).length - (k + (1 + (lnk x.2.1).length + 1)) = (lnk x.2.2).length from by omega]
    simp
  · rw [he, show k + 1 + (lnk x.2.1).length + 1 + (lnk x.2.2).length + 1 = k + (itm x).length from by rw [hlen]; omega, dk]
    simp
theorem item_here {bs : List UInt8} {k v l0 l1 : Nat} (hk : k < bs.length) (hE : untl bs k 59 < bs.length) (hME : untl bs k 44 < untl bs k 59) (hkM : k + 1 ≤ untl bs k 44) (hv : bs[k] = dgt v)
    (h0 : (bs.take (untl bs k 44)).drop (k + 1) = lnk l0) (h1 : (bs.take (untl bs k 59)).drop (untl bs k 44 + 1) = lnk l1) : bs.drop k = itm (v, l0, l1) ++ bs.drop (untl bs k 59 + 1) := by
  have hM : untl bs k 44 < bs.length := by omega
  rw [List.drop_eq_getElem_cons hk, hv, drop_mid hkM (Nat.le_of_lt hM), h0, List.drop_eq_getElem_cons hM, untl_stop hM, drop_mid (show untl bs k 44 + 1 ≤ untl bs k 59 by omega) (Nat.le_of_lt hE), h1, List.drop_eq_getElem_cons hE, untl_stop hE]
  simp [itm]
end Go.Proofs.YthoodkbdpnffdabGreatDoor
