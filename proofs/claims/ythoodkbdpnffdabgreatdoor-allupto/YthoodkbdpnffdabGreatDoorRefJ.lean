/-
  Own work: the document's answer: the calls that make functions (walks), as functions of what the store is.
-/
import Derived.Test.YthoodkbdpnffdabGreatDoorRefH
namespace Go.Proofs.YthoodkbdpnffdabGreatDoor
open Go.RowKit
open Cho (U64 Tab full col)

/-- A function more, or why not: the store, the handle, the error. -/
def RSt.made (r : RSt) (t : Nat) : RSt × Nat × Nat :=
  if r.L.length < 30 then if r.need t ≤ r.room then (r.push t, r.given + 1, 0) else (r, 0, 4) else (r, 0, 3)
/-- What a call on the store in block y leaves. -/
structure RStep (B : Nat) (w w' : World) (y : Nat) (rv ov : Value) (r' : RSt) : Prop where
  ex : ∃ rv', RefAt B w' y r' rv' ov ∧ ∀ g, rv'.ownBlock = some g → rv.ownBlock = some g ∨ w.heap.size ≤ g
  ch : Ch (fun k => k = y ∨ rv.ownBlock = some k) w w'
theorem RStep.same {B : Nat} {w w' : World} {y : Nat} {r : RSt} {rv ov : Value} (h : RefAt B w y r rv ov) (hb : Below w.heap.size w w') : RStep B w w' y rv ov r := ⟨⟨rv, h.below hb, fun _ hg => .inl hg⟩, Ch.of_below hb⟩
theorem RStep.before {B : Nat} {w w1 w' : World} {y : Nat} {r' : RSt} {rv ov : Value} (hb : Below w.heap.size w w1) (h : RStep B w1 w' y rv ov r') : RStep B w w' y rv ov r' := by
  obtain ⟨rv', h1, h2⟩ := h.ex
  refine ⟨⟨rv', h1, fun g hg => (h2 g hg).imp id (Nat.le_trans hb.size)⟩, (Ch.of_below hb).trans h.ch⟩
theorem tup_eq {a b : Nat} {x y : Int} (h1 : x = a) (h2 : y = b) : Ending.returned (.tuple #[.int .u32 x, .int .i64 y]) = .returned (.tuple #[.int .u32 (a : Nat), .int .i64 (b : Nat)]) := by rw [h1, h2]

theorem rmade_calls (B y t : Nat) (r : RSt) (rv ov : Value) (w : World) (hr : RefAt B w y r rv ov) (ht : Tab r.n t) (hg : r.given + 1 < 4294967296) :
    Calls Tryz.prog 67 #[.pointer (some ⟨y, 0, none⟩), .int .u64 t] w fun e w' => e = .returned (.tuple #[.int .u32 ((r.made t).2.1 : Nat), .int .i64 ((r.made t).2.2 : Nat)]) ∧ RStep B w w' y rv ov (r.made t).1 := by
  unfold RSt.made
  by_cases hl : r.L.length < 30
  · rw [if_pos hl]
    by_cases hn : r.need t ≤ r.room
    · rw [if_pos hn]
      refine (rmade_ok B y t r rv ov w hr hl ht hn hg).mono ?_
      rintro e w' ⟨rv', rfl, h1, h2, h3⟩
      refine ⟨rfl, ⟨rv', h1, fun g hg => ?_⟩, h2⟩
      rcases h3 with e | ⟨g', e, hle⟩
      · exact .inl (e ▸ hg)
      · rw [e] at hg
        obtain rfl : g' = g := by simpa using hg
        exact .inr hle
    · rw [if_neg hn]
      refine (rmade_room B y t r rv ov w hr hl ht hn).mono ?_
      rintro e w' ⟨rfl, h1⟩
      exact ⟨rfl, .same hr h1⟩
  · rw [if_neg hl]
    refine (rmade_many B y t r rv ov w hr hl).mono ?_
    rintro e w' ⟨rfl, rfl⟩
    exact ⟨rfl, .same hr (Below.refl _ _)⟩

/-- The table of a handle, if it is live. -/
def RSt.get (r : RSt) (a : Nat) : Option Nat := (r.L.find? (fun p => p.1 == a)).map (·.2)
theorem get_at {r : RSt} (h : RefOk r) {j : Nat} (hj : j < r.L.length) : r.get r.L[j].1 = some r.L[j].2 := by
  have hf : r.L.find? (fun p => p.1 == r.L[j].1) = some r.L[j] := by
    rw [List.find?_eq_some_iff_getElem]
    refine ⟨by simp, j, hj, rfl, fun i hi => ?_⟩
    have h1 : i < r.hs.length := by simp [RSt.hs]; omega
    have h2 : j < r.hs.length := by simpa [RSt.hs] using hj
    have : r.hs[i] ≠ r.hs[j] := fun e => by have := (List.getElem_inj (h₀ := h1) (h₁ := h2) h.nodup).1 e; omega
    simpa [RSt.hs] using this
  unfold RSt.get; rw [hf]; rfl
theorem get_some {r : RSt} {a t : Nat} (hg : r.get a = some t) : ∃ j, ∃ hj : j < r.L.length, r.L[j].1 = a ∧ r.L[j].2 = t := by
  unfold RSt.get at hg
  cases hf : r.L.find? (fun p => p.1 == a) with
  | none => rw [hf] at hg; cases hg
  | some p =>
    rw [hf] at hg
    simp at hg
    have h1 := List.find?_some hf
    obtain ⟨j, hj, e⟩ := List.getElem_of_mem (List.mem_of_find?_eq_some hf)
    exact ⟨j, hj, by rw [e]; simpa using h1, by rw [e]; exact hg⟩
theorem get_none {r : RSt} {a : Nat} (hg : r.get a = none) : a ∉ r.hs := by
  intro hm
  unfold RSt.get at hg
  simp only [Option.map_eq_none_iff, List.find?_eq_none] at hg
  obtain ⟨p, hp, e⟩ := List.mem_map.1 hm
  exact hg p hp (by simpa using e)
theorem get_tab {r : RSt} {a t : Nat} (h : RefOk r) (hg : r.get a = some t) : Tab r.n t := by
  obtain ⟨j, hj, _, rfl⟩ := get_some hg
  exact h.tab _ (List.mem_map_of_mem (List.getElem_mem hj))
theorem get_mem {r : RSt} {a t : Nat} (hg : r.get a = some t) : a ∈ r.hs := by
  obtain ⟨j, hj, rfl, _⟩ := get_some hg
  exact List.mem_map_of_mem (List.getElem_mem hj)
theorem rof_get (B y h t : Nat) (r : RSt) (rv ov : Value) (w : World) (hr : RefAt B w y r rv ov) (hg : r.get h = some t) :
    Calls Tryz.prog 76 #[.pointer (some ⟨y, 0, none⟩), .int .u32 h] w fun e w' => e = .returned (.int .u64 (t : Nat)) ∧ ∃ q, w' = w.drewN q := by
  obtain ⟨j, hj, h1, rfl⟩ := get_some hg
  exact rof_calls B y h j r rv ov w hr hj h1
theorem rfind_some (B y h t : Nat) (r : RSt) (rv ov : Value) (w : World) (hr : RefAt B w y r rv ov) (hg : r.get h = some t) :
    Calls Tryz.prog 82 #[.pointer (some ⟨y, 0, none⟩), .int .u32 h] w fun e w' => (∃ j : Nat, j < 30 ∧ e = .returned (.int .i64 j)) ∧ w' = w := by
  obtain ⟨j, hj, h1, rfl⟩ := get_some hg
  refine (rfind_yes B y h j r rv ov w hr hj h1).mono ?_
  rintro e w' ⟨rfl, rfl⟩
  exact ⟨⟨j, by have := hr.ok.len; omega, rfl⟩, rfl⟩
theorem RefAt.drewN {B : Nat} {w : World} {y : Nat} {r : RSt} {rv ov : Value} (h : RefAt B w y r rv ov) (q : Nat) : RefAt B (w.drewN q) y r rv ov := h.below (below_drewN (Below.refl _ _) q)
theorem RefAt.alloc {B : Nat} {w : World} {y : Nat} {r : RSt} {rv ov : Value} (h : RefAt B w y r rv ov) (o : Obj) : RefAt B (w.alloc o) y r rv ov := h.below ((Below.refl _ _).alloc (Nat.le_refl _) o)
theorem below_alloc (w : World) (o : Obj) : Below w.heap.size w (w.alloc o) := (Below.refl _ _).alloc (Nat.le_refl _) o
theorem below_dr (w : World) (q : Nat) : Below w.heap.size w (w.drewN q) := below_drewN (Below.refl _ _) q
theorem below_trans {a b c : World} (h : Below a.heap.size a b) (k : Below b.heap.size b c) : Below a.heap.size a c := h.trans (k.mono h.size)

set_option maxHeartbeats 1000000 in
theorem rconst_calls (B y : Nat) (v : Bool) (r : RSt) (rv ov : Value) (w : World) (hr : RefAt B w y r rv ov) (hg : r.given + 1 < 4294967296) :
    Calls Tryz.prog 20 #[.pointer (some ⟨y, 0, none⟩), .bool v] w fun e w' => e = .returned (.tuple #[.int .u32 ((r.made (if v then full r.n else 0)).2.1 : Nat), .int .i64 ((r.made (if v then full r.n else 0)).2.2 : Nat)]) ∧ RStep B w w' y rv ov (r.made (if v then full r.n else 0)).1 := by
  have HR : Hid (RefAt B w y r rv ov) := hr
  clear hr
  cases v
  · go_enter Tryz.func20, Tryz.ntmps20
    go_wp2_with fail
    refine (rmade_calls B y 0 r _ _ _ HR.out (Nat.two_pow_pos _) hg).mono ?_
    rintro e w1 ⟨rfl, h1⟩
    have H1 : Hid _ := h1
    clear h1
    go_wp2_with fail
    go_ret2
    exact ⟨rfl, H1.out⟩
  · go_enter Tryz.func20, Tryz.ntmps20
    go_wp2_with fail
    refine (rfull_calls y r.n _ HR.out.c0 HR.out.ok.n6).mono ?_
    rintro e w1 ⟨rfl, rfl⟩
    go_wp2_with fail
    refine (rmade_calls B y (full r.n) r _ _ _ HR.out (Cho.full_tab _) hg).mono ?_
    rintro e w2 ⟨rfl, h1⟩
    have H1 : Hid _ := h1
    clear h1
    go_wp2_with fail
    go_ret2
    exact ⟨rfl, H1.out⟩

theorem rvariable_yes (s n : Nat) (i : Int) (w : World) (h0 : w.cell? ⟨s, 0, none⟩ = some (.int .i64 n)) (hi : 0 ≤ i ∧ i < n) :
    Calls Tryz.prog 71 #[.pointer (some ⟨s, 0, none⟩), .int .i64 i] w fun e w' => e = .returned (.bool true) ∧ w' = w := by
  have := rvariable_calls s n i w h0
  have hv : (decide ((0 : Int) ≤ i) && decide (i < (n : Int))) = true := by simp [hi.1, hi.2]
  rw [hv] at this; exact this
theorem rvariable_no (s n : Nat) (i : Int) (w : World) (h0 : w.cell? ⟨s, 0, none⟩ = some (.int .i64 n)) (hi : ¬ (0 ≤ i ∧ i < n)) :
    Calls Tryz.prog 71 #[.pointer (some ⟨s, 0, none⟩), .int .i64 i] w fun e w' => e = .returned (.bool false) ∧ w' = w := by
  have := rvariable_calls s n i w h0
  have hv : (decide ((0 : Int) ≤ i) && decide (i < (n : Int))) = false := by rw [Bool.eq_false_iff]; intro h; simp at h; exact hi h
  rw [hv] at this; exact this

def RSt.var (r : RSt) (i : Int) : RSt × Nat × Nat := if 0 ≤ i ∧ i < r.n then r.made (col i.toNat &&& full r.n) else (r, 0, 1)
set_option maxHeartbeats 1000000 in
theorem rvar_calls (B y : Nat) (i : Int) (r : RSt) (rv ov : Value) (w : World) (hr : RefAt B w y r rv ov) (hg : r.given + 1 < 4294967296) :
    Calls Tryz.prog 23 #[.pointer (some ⟨y, 0, none⟩), .int .i64 i] w fun e w' => e = .returned (.tuple #[.int .u32 ((r.var i).2.1 : Nat), .int .i64 ((r.var i).2.2 : Nat)]) ∧ RStep B w w' y rv ov (r.var i).1 := by
  have HR : Hid (RefAt B w y r rv ov) := hr
  have hn := hr.ok.n6
  have h64 := Cho.two_pow_le r.n hn
  clear hr
  by_cases hi : 0 ≤ i ∧ i < r.n
  · have HV : Hid (r.var i = r.made (col i.toNat &&& full r.n)) := if_pos hi
    obtain ⟨k, rfl⟩ : ∃ k : Nat, i = k := ⟨i.toNat, by omega⟩
    have hk : k < r.n := by omega
    rw [Int.toNat_natCast] at HV
    have HF : Hid (Cho.bld (fun p => p.testBit k) (2 ^ r.n) = col k &&& full r.n) := Cho.bld_var hn hk
    have HB : Hid (Calls Tryz.prog 71 #[.pointer (some ⟨y, 0, none⟩), .int .i64 k] w fun e w' => e = .returned (.bool true) ∧ w' = w) := rvariable_yes y r.n k w HR.out.c0 hi
    clear hi
    go_enter Tryz.func23, Tryz.ntmps23
    go_wp2_with fail
    refine HB.out.mono ?_
    rintro e w1 ⟨rfl, rfl⟩
    go_wp2_with fail
    go_loopw [6, 7] (fun u i wr => ∃ m : Nat, m ≤ 2 ^ r.n ∧ i = .int .i64 m ∧ u = .int .u64 (Cho.bld (fun p => p.testBit k) m : Nat) ∧ wr = w1) (fun _ i _ => 2 ^ r.n - (intOf i).toNat)
    case atStart => exact ⟨0, Nat.zero_le _, rfl, rfl, rfl⟩
    case round =>
      obtain ⟨m, hm, rfl, rfl, rfl⟩ := hrel
      have HC : Hid (Calls Tryz.prog 72 #[.pointer (some ⟨y, 0, none⟩)] wr fun e w' => e = .returned (.int .i64 ((2 ^ r.n : Nat) : Nat)) ∧ w' = wr) := rplaces_calls y r.n wr HR.out.c0 hn
      generalize 2 ^ r.n = N at *
      go_wp2_with fail
      refine HC.out.mono ?_
      rintro e w1 ⟨rfl, rfl⟩
      by_cases hlt : m < N
      · have E : Hid (Cho.bld (fun p => p.testBit k) (m + 1) = if m.testBit k then Cho.bld (fun p => p.testBit k) m ||| 2 ^ m else Cho.bld (fun p => p.testBit k) m) := rfl
        have hu := Cho.bld_u64 (fun p => p.testBit k) m (by omega)
        generalize Cho.bld (fun p => p.testBit k) m = u at *
        go_wp2_with fail
        refine (rbit_calls m k _ (by omega)).mono ?_
        rintro e w2 ⟨rfl, rfl⟩
        cases hfk : m.testBit k
        · go_wp2_with fail
          refine ⟨⟨m + 1, hlt, by go_num, val_int ?_, trivial⟩, by simp [intOf]; omega⟩
          rw [E.out, hfk]; rfl
        · go_wp2_with fail
          refine ⟨⟨m + 1, hlt, by go_num, val_int ?_, trivial⟩, by simp [intOf]; omega⟩
          rw [E.out, hfk]
          exact setbit64 hu m (by omega)
      · have HM : Hid (Cho.bld (fun p => p.testBit k) m = col k &&& full r.n) := by show Cho.bld (fun p => p.testBit k) m = col k &&& full r.n; rw [← HF.out, show m = N from by omega]
        have HT : Hid (Tab r.n (col k &&& full r.n)) := Nat.lt_of_le_of_lt Nat.and_le_right (Cho.full_tab _)
        generalize Cho.bld (fun p => p.testBit k) m = u at *
        obtain rfl := HM.out
        go_wp2_with fail
        refine (rmade_calls B y _ r _ _ _ HR.out HT.out hg).mono ?_
        rintro e w3 ⟨rfl, h1⟩
        have H1 : Hid _ := h1
        clear h1
        go_wp2_with fail
        go_ret2
        rw [HV.out]
        exact ⟨rfl, H1.out⟩
  · have HV : Hid (r.var i = (r, 0, 1)) := if_neg hi
    have HB : Hid (Calls Tryz.prog 71 #[.pointer (some ⟨y, 0, none⟩), .int .i64 i] w fun e w' => e = .returned (.bool false) ∧ w' = w) := rvariable_no y r.n i w HR.out.c0 hi
    clear hi
    go_enter Tryz.func23, Tryz.ntmps23
    go_wp2_with fail
    refine HB.out.mono ?_
    rintro e w1 ⟨rfl, rfl⟩
    go_wp2_with fail
    go_ret2
    rw [HV.out]
    exact ⟨rfl, .same HR.out (Below.refl _ _)⟩

def RSt.make (r : RSt) (t : Nat) : RSt × Nat × Nat := if t ≤ full r.n then r.made t else (r, 0, 1)
set_option maxHeartbeats 1000000 in
theorem rmake_calls (B y t : Nat) (r : RSt) (rv ov : Value) (w : World) (hr : RefAt B w y r rv ov) (hg : r.given + 1 < 4294967296) :
    Calls Tryz.prog 25 #[.pointer (some ⟨y, 0, none⟩), .int .u64 t] w fun e w' => e = .returned (.tuple #[.int .u32 ((r.make t).2.1 : Nat), .int .i64 ((r.make t).2.2 : Nat)]) ∧ RStep B w w' y rv ov (r.make t).1 := by
  have HR : Hid (RefAt B w y r rv ov) := hr
  clear hr
  by_cases hi : t ≤ full r.n
  · have HV : Hid (r.make t = r.made t) := if_pos hi
    have HT : Hid (Tab r.n t) := by have := Cho.full_tab r.n; show t < 2 ^ 2 ^ r.n; unfold Cho.Tab at this; omega
    have hb : ¬ ((full r.n : Nat) : Int) < (t : Int) := by omega
    go_enter Tryz.func25, Tryz.ntmps25
    go_wp2_with fail
    refine (rfull_calls y r.n _ HR.out.c0 HR.out.ok.n6).mono ?_
    rintro e w1 ⟨rfl, rfl⟩
    go_wp2_with fail
    refine (rmade_calls B y t r _ _ _ HR.out HT.out hg).mono ?_
    rintro e w3 ⟨rfl, h1⟩
    have H1 : Hid _ := h1
    clear h1
    go_wp2_with fail
    go_ret2
    rw [HV.out]
    exact ⟨rfl, H1.out⟩
  · have HV : Hid (r.make t = (r, 0, 1)) := if_neg hi
    have hb : ((full r.n : Nat) : Int) < (t : Int) := by omega
    go_enter Tryz.func25, Tryz.ntmps25
    go_wp2_with fail
    refine (rfull_calls y r.n _ HR.out.c0 HR.out.ok.n6).mono ?_
    rintro e w1 ⟨rfl, rfl⟩
    go_wp2_with fail
    go_ret2
    rw [HV.out]
    exact ⟨rfl, .same HR.out (Below.refl _ _)⟩
end Go.Proofs.YthoodkbdpnffdabGreatDoor

/-
  Own work: the document's answer: Apply and Ite (walks).
-/
namespace Go.Proofs.YthoodkbdpnffdabGreatDoor
open Go.RowKit
open Cho (U64 Tab full col)

theorem rowH_two (w : World) (a b : Nat) : RowH (w.alloc (.cells #[.int .u32 (a : Nat), .int .u32 (b : Nat)] 57)) (.slice (some ⟨w.heap.size, 0, none⟩) 2 2) [a, b] := by
  refine ⟨w.heap.size, 2, rfl, fun i hi => ?_⟩
  have hb := heap_res w (.cells #[.int .u32 (a : Nat), .int .u32 (b : Nat)] 57)
  match i, hi with
  | 0, _ => exact cell_of_block hb 0
  | 1, _ => exact cell_of_block hb 1
theorem rowH_three (w : World) (a b c : Nat) : RowH (w.alloc (.cells #[.int .u32 (a : Nat), .int .u32 (b : Nat), .int .u32 (c : Nat)] 57)) (.slice (some ⟨w.heap.size, 0, none⟩) 3 3) [a, b, c] := by
  refine ⟨w.heap.size, 3, rfl, fun i hi => ?_⟩
  have hb := heap_res w (.cells #[.int .u32 (a : Nat), .int .u32 (b : Nat), .int .u32 (c : Nat)] 57)
  match i, hi with
  | 0, _ => exact cell_of_block hb 0
  | 1, _ => exact cell_of_block hb 1
  | 2, _ => exact cell_of_block hb 2

theorem cbit0 : ∀ c : Nat, c < 16 → (((c : Int) % 2 == 1) = c.testBit 0) := by decide
theorem cbit1 : ∀ c : Nat, c < 16 → (((c : Int) / 2 % 2 == 1) = c.testBit 1) := by decide
theorem cbit2 : ∀ c : Nat, c < 16 → (((c : Int) / 4 % 2 == 1) = c.testBit 2) := by decide
theorem cbit3 : ∀ c : Nat, c < 16 → (((c : Int) / 8 % 2 == 1) = c.testBit 3) := by decide

def RSt.apply (r : RSt) (c : Int) (a b : Nat) : RSt × Nat × Nat :=
  if 0 ≤ c ∧ c ≤ 15 then
    match r.get a, r.get b with
    | some x, some y => r.made (Cho.joinT c.toNat x y (full r.n))
    | _, _ => (r, 0, 2)
  else (r, 0, 1)

set_option maxRecDepth 100000 in
set_option maxHeartbeats 2000000 in
theorem rapply_ok (B y c a b f g : Nat) (r : RSt) (rv ov : Value) (w : World) (hr : RefAt B w y r rv ov) (hg : r.given + 1 < 4294967296) (hc : c < 16) (ha : r.get a = some f) (hb : r.get b = some g) :
    Calls Tryz.prog 27 #[.pointer (some ⟨y, 0, none⟩), .int .i64 c, .int .u32 a, .int .u32 b] w fun e w' => e = .returned (.tuple #[.int .u32 ((r.made (Cho.joinT c f g (full r.n))).2.1 : Nat), .int .i64 ((r.made (Cho.joinT c f g (full r.n))).2.2 : Nat)]) ∧ RStep B w w' y rv ov (r.made (Cho.joinT c f g (full r.n))).1 := by
  have HR : Hid (RefAt B w y r rv ov) := hr
  have HA : Hid (r.get a = some f) := ha
  have HB : Hid (r.get b = some g) := hb
  have tf := get_tab hr.ok ha
  have tg := get_tab hr.ok hb
  have hn := hr.ok.n6
  have h64 := Cho.two_pow_le r.n hn
  have HF : Hid (Cho.bld (fun p => c.testBit (2 * (f.testBit p).toNat + (g.testBit p).toNat)) (2 ^ r.n) = Cho.joinT c f g (full r.n)) := Cho.bld_join c tf tg hn
  have HT : Hid (Tab r.n (Cho.joinT c f g (full r.n))) := Cho.joinT_tab c f g r.n tf tg
  have HK : Hid (∀ h ∈ [a, b], h ∈ r.hs) := by
    intro h hh
    simp only [List.mem_cons, List.not_mem_nil, or_false] at hh
    rcases hh with rfl | rfl
    · exact get_mem ha
    · exact get_mem hb
  clear hr ha hb tf tg
  generalize hjf : Cho.joinT c f g (full r.n) = J at *
  clear hjf
  generalize hf : (fun p => c.testBit (2 * (f.testBit p).toNat + (g.testBit p).toNat)) = fn at *
  have Hf : Hid (∀ p, c.testBit (2 * (f.testBit p).toNat + (g.testBit p).toNat) = fn p) := by intro p; rw [← hf]
  clear hf
  go_enter Tryz.func27, Tryz.ntmps27
  go_wp2_with fail
  refine (rknows_yes B y r _ _ _ [a, b] _ (HR.out.alloc _) (rowH_two _ a b) (by simp) HK.out).mono ?_
  rintro e w1 ⟨rfl, rfl⟩
  have B1 : Hid (Below w.heap.size w (w.alloc (.cells #[.int .u32 (a : Nat), .int .u32 (b : Nat)] 57))) := below_alloc _ _
  generalize w.alloc (.cells #[.int .u32 (a : Nat), .int .u32 (b : Nat)] 57) = w1 at *
  have HR1 : Hid (RefAt B w1 y r rv ov) := HR.out.below B1.out
  go_wp2_with fail
  refine (rof_get B y a f r _ _ _ HR1.out HA.out).mono ?_
  rintro e w2 ⟨rfl, q, rfl⟩
  go_wp2_with fail
  refine (rof_get B y b g r _ _ _ (HR1.out.drewN q) HB.out).mono ?_
  rintro e w3 ⟨rfl, q', rfl⟩
  have B3 : Hid (Below w.heap.size w ((w1.drewN q).drewN q')) := below_trans (below_trans B1.out (below_dr _ _)) (below_dr _ _)
  generalize (w1.drewN q).drewN q' = w3 at *
  have HR3 : Hid (RefAt B w3 y r rv ov) := HR.out.below B3.out
  go_wp2_with fail
  go_loopw [13, 14] (fun u i wr => ∃ m : Nat, m ≤ 2 ^ r.n ∧ i = .int .i64 m ∧ u = .int .u64 (Cho.bld fn m : Nat) ∧ wr = w3) (fun _ i _ => 2 ^ r.n - (intOf i).toNat)
  case atStart => exact ⟨0, Nat.zero_le _, rfl, rfl, rfl⟩
  case round =>
    obtain ⟨m, hm, rfl, rfl, rfl⟩ := hrel
    have HC : Hid (Calls Tryz.prog 72 #[.pointer (some ⟨y, 0, none⟩)] wr fun e w' => e = .returned (.int .i64 ((2 ^ r.n : Nat) : Nat)) ∧ w' = wr) := rplaces_calls y r.n wr HR3.out.c0 hn
    generalize 2 ^ r.n = N at *
    go_wp2_with fail
    refine HC.out.mono ?_
    rintro e w4 ⟨rfl, rfl⟩
    by_cases hlt : m < N
    · have E : Hid (Cho.bld fn (m + 1) = if fn m then Cho.bld fn m ||| 2 ^ m else Cho.bld fn m) := rfl
      have hu := Cho.bld_u64 fn m (by omega)
      generalize Cho.bld fn m = u at *
      go_wp2_with fail
      refine (rat_calls f m _ (by omega)).mono ?_
      rintro e w5 ⟨rfl, rfl⟩
      cases hbf : f.testBit m
      · go_wp2_with fail
        refine (rat_calls g m _ (by omega)).mono ?_
        rintro e w6 ⟨rfl, rfl⟩
        cases hbg : g.testBit m
        · have hcb := cbit0 c hc
          have hfm : c.testBit 0 = fn m := by have := Hf.out m; rw [hbf, hbg] at this; exact this
          rw [hfm] at hcb
          cases hfk : fn m
          · rw [hfk] at hcb
            go_wp2_with fail
            refine ⟨⟨m + 1, hlt, by go_num, val_int ?_, trivial⟩, by simp [intOf]; omega⟩
            rw [E.out, hfk]; rfl
          · rw [hfk] at hcb
            go_wp2_with fail
            refine ⟨⟨m + 1, hlt, by go_num, val_int ?_, trivial⟩, by simp [intOf]; omega⟩
            rw [E.out, hfk]
            exact setbit64 hu m (by omega)
        · have hcb := cbit1 c hc
          have hfm : c.testBit 1 = fn m := by have := Hf.out m; rw [hbf, hbg] at this; exact this
          rw [hfm] at hcb
          cases hfk : fn m
          · rw [hfk] at hcb
            go_wp2_with fail
            refine ⟨⟨m + 1, hlt, by go_num, val_int ?_, trivial⟩, by simp [intOf]; omega⟩
            rw [E.out, hfk]; rfl
          · rw [hfk] at hcb
            go_wp2_with fail
            refine ⟨⟨m + 1, hlt, by go_num, val_int ?_, trivial⟩, by simp [intOf]; omega⟩
            rw [E.out, hfk]
            exact setbit64 hu m (by omega)
      · go_wp2_with fail
        refine (rat_calls g m _ (by omega)).mono ?_
        rintro e w6 ⟨rfl, rfl⟩
        cases hbg : g.testBit m
        · have hcb := cbit2 c hc
          have hfm : c.testBit 2 = fn m := by have := Hf.out m; rw [hbf, hbg] at this; exact this
          rw [hfm] at hcb
          cases hfk : fn m
          · rw [hfk] at hcb
            go_wp2_with fail
            refine ⟨⟨m + 1, hlt, by go_num, val_int ?_, trivial⟩, by simp [intOf]; omega⟩
            rw [E.out, hfk]; rfl
          · rw [hfk] at hcb
            go_wp2_with fail
            refine ⟨⟨m + 1, hlt, by go_num, val_int ?_, trivial⟩, by simp [intOf]; omega⟩
            rw [E.out, hfk]
            exact setbit64 hu m (by omega)
        · have hcb := cbit3 c hc
          have hfm : c.testBit 3 = fn m := by have := Hf.out m; rw [hbf, hbg] at this; exact this
          rw [hfm] at hcb
          cases hfk : fn m
          · rw [hfk] at hcb
            go_wp2_with fail
            refine ⟨⟨m + 1, hlt, by go_num, val_int ?_, trivial⟩, by simp [intOf]; omega⟩
            rw [E.out, hfk]; rfl
          · rw [hfk] at hcb
            go_wp2_with fail
            refine ⟨⟨m + 1, hlt, by go_num, val_int ?_, trivial⟩, by simp [intOf]; omega⟩
            rw [E.out, hfk]
            exact setbit64 hu m (by omega)
    · have HM : Hid (Cho.bld fn m = J) := by show Cho.bld fn m = J; rw [← HF.out, show m = N from by omega]
      generalize Cho.bld fn m = u at *
      obtain rfl := HM.out
      go_wp2_with fail
      refine (rmade_calls B y _ r _ _ _ HR3.out HT.out hg).mono ?_
      rintro e w5 ⟨rfl, h1⟩
      have H1 : Hid _ := h1
      clear h1
      go_wp2_with fail
      go_ret2
      exact ⟨rfl, H1.out.before B3.out⟩
end Go.Proofs.YthoodkbdpnffdabGreatDoor
