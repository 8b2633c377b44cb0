/-
  Own work: 'Carried' answers true, whatever its arguments (a walk over the contracts of the calls).
-/
import Derived.Test.YthoodkbdpnffdaaDoorTablesW
import Derived.Test.YthoodkbdpnffdaaDoorSwappedW
import Derived.Test.YthoodkbdpnffdaaDoorCountedW
namespace Go.Proofs.YthoodkbdpnffdaaDoor
open Go.RowKit
open Cho (U64 Tab full col Nd Red Says readT readT_says textOf ext)

theorem Gw.swps {n : Nat} {st : St} {qs : List (Nat × Nat)} (h : Gw n st qs) {ks : List Nat} (hk : ∀ k ∈ ks, k + 1 < n) : Gw n (st.swps ks) qs ∧ (st.swps ks).given = st.given := by
  have hn := h.n'
  subst hn
  obtain ⟨d, hs, e1, e2⟩ := swps_same h.inv h.cl ks hk
  have ht := taken h.inv h.cl hs
  rw [e1]
  refine ⟨⟨rfl, h.room, ht.inv, ht.cl, fun a => (take_live st d a).trans (h.live a), fun p hp => ?_⟩, rfl⟩
  rw [ht.tab _ ((h.live p.1).2 (List.mem_map_of_mem hp))]
  exact h.tab p hp
theorem gv_swaps {w0 w : World} {s n cap : Nat} {st : St} {qs : List (Nat × Nat)} {ao : Option Addr} {l : List Int} (h : Gv w0 w s n st qs) (hl : SlI w0 ao l) :
    Calls Tryd.prog 34 #[.pointer (some ⟨s, 0, none⟩), .int .i64 n, .slice ao l.length cap] w fun e w' => e = .returned (.bool true) ∧ Gv w0 w' s n (st.swps (lvls n l)) qs ∧ (st.swps (lvls n l)).given = st.given ∧ w.grownBy w' (some s) := by
  refine (swaps_calls s n cap w0 w ao l st ⟨h.lo, h.bel, h.has, h.gw.cl⟩ h.gw.n' h.gw.room hl).mono ?_
  rintro e w' ⟨rfl, h', hg⟩
  have hs := h.gw.swps (ks := lvls n l) lvls_lt
  exact ⟨rfl, gv_step h h'.has hs.1 hg, hs.2, hg⟩

theorem and_modd : ∀ p : Nat, p < 64 → ∀ n : Nat, n ≤ 6 → bits .and .i64 (p : Int) (((2 ^ n : Nat) : Int) - 1) = ((p % 2 ^ n : Nat) : Int) := by decide +kernel
theorem and_mod (p : Nat) (hp : p < 64) (n : Nat) (hn : n ≤ 6) : bits .and .i64 (p : Int) (((2 ^ n : Nat) : Int) - 1) = ((p % 2 ^ n : Nat) : Int) := and_modd p hp n hn

set_option maxRecDepth 100000 in
set_option maxHeartbeats 4000000 in
theorem carried_walk (raw more : Int) (t cap cap2 : Nat) (ao ao2 : Option Addr) (here there : List Int) (w : World) (hc : Cols w) (hu : U64 t) (h1 : -9223372036854775808 ≤ raw) (h2 : raw ≤ 9223372036854775807) (h3 : -9223372036854775808 ≤ more) (h4 : more ≤ 9223372036854775807) (hh : SlI w ao here) (ht : SlI w ao2 there) :
    Calls Tryd.prog 11 #[.int .i64 raw, .int .i64 more, .int .u64 (t : Nat), .slice ao here.length cap, .slice ao2 there.length cap2] w fun e w' => e = .returned (.bool true) ∧ Below w.heap.size w w' := by
  have HC : Hid (Cols w) := hc
  have HH : Hid (SlI w ao here) := hh
  have HT : Hid (SlI w ao2 there) := ht
  have hpos := cols_pos hc
  clear hc hh ht
  go_enter Tryd.func11, Tryd.ntmps11
  go_wp2_with fail
  refine (vars_calls raw _ h1 h2).mono ?_
  rintro e w1 ⟨⟨n, hn1, hn6, rfl⟩, rfl⟩
  have e7 : ((6 : Int) - (n : Int) + 1) = ((7 - n : Nat) : Int) := by omega
  go_wp2_with fail
  refine (pick_calls more (7 - n) _ h3 h4 (by omega) (by omega)).mono ?_
  rintro e w2 ⟨⟨k, hk, rfl⟩, rfl⟩
  obtain ⟨m, hm⟩ : ∃ m, m = n + k := ⟨_, rfl⟩
  have em : ((n : Int) + (k : Int)) = (m : Int) := by omega
  have hnm : n ≤ m := by omega
  have hm1 : 1 ≤ m := by omega
  have hm6 : m ≤ 6 := by omega
  clear hm e7
  go_wp2_with fail
  refine (gv_store (w0 := w2) n (Below.refl _ _) hn1 hn6 HC.out).mono ?_
  rintro e w3 ⟨s, rfl, g3, hs3, b3⟩
  have G3 : Hid _ := g3
  have B3 : Hid (Below w2.heap.size w2 w3) := b3
  have hslt : s < w3.heap.size := by obtain ⟨_, hb⟩ := g3.blk; exact lt_of_block hb
  have HC3 : Hid (Cols w3) := g3.has.lies.cols
  clear g3 b3
  go_wp2_with fail
  refine (gv_store (w0 := w2) m B3.out hm1 hm6 HC3.out).mono ?_
  rintro e w4 ⟨u, rfl, u4, hs4, b4⟩
  have G4 : Hid (Gv w2 w4 s n (St.empty n 4000) []) := G3.out.below b4
  have U4 : Hid _ := u4
  have hsu : s ≠ u := by omega
  clear u4 b4 G3 B3 HC3
  go_wp2_with fail
  refine (cut_calls t n _ hu hn6).mono ?_
  rintro e w5 ⟨rfl, rfl⟩
  have HTB : Hid (Tab n (cutT t n)) := cut_tab t n
  generalize cutT t n = T at *
  clear hu
  have KM : Hid (Calls Tryd.prog 16 #[.pointer (some ⟨s, 0, none⟩), .int .u64 T] w5 fun e w' => e = .returned (.tuple #[.int .u32 1, .int .i64 0]) ∧ Gv w2 w' s n ((St.empty n 4000).added T) [(1, T)] ∧ w5.grownBy w' (some s)) := gv_make G4.out HTB.out (by simp) (by simp [St.empty])
  go_wp2_with fail
  refine KM.out.mono ?_
  rintro e w6 ⟨rfl, g6, gr6⟩
  have G6 : Hid _ := g6
  have U6 : Hid (Gv w2 w6 u m (St.empty m 4000) []) := U4.out.beside G4.out (Ne.symm hsu) hpos gr6
  have KE : Hid (Calls Tryd.prog 40 #[.pointer (some ⟨s, 0, none⟩), .int .u32 1] w6 fun e w' => e = .returned (.tuple #[.string ⟨(textOf n T).toArray⟩, .int .i64 0]) ∧ Below w6.heap.size w6 w') := gv_export (a := 1) g6 (by simp)
  have HX : Hid (textOf n T ≠ []) := text_ne hn6 HTB.out
  have HX2 : Hid ((textOf n T).length ≤ 441) := Cho.text_short hn6 HTB.out
  have HRN : Hid (readT n (textOf n T) = some T) := read_text hn6 HTB.out
  have HRM : Hid (readT m (textOf n T) = some (ext n m T)) := read_more hnm hm6 HTB.out
  have HTM : Hid (textOf m (ext n m T) = textOf n T) := Cho.text_ext hn1 hnm hm6 HTB.out
  clear g6 gr6 KM G4 U4
  go_wp2_with fail
  refine KE.out.mono ?_
  rintro e w7 ⟨rfl, b7⟩
  have G7 : Hid _ := G6.out.below b7
  have U7 : Hid _ := U6.out.below b7
  clear b7 KE G6 U6
  go_wp2_with fail
  refine (gv_swaps G7.out HH.out).mono ?_
  rintro e w8 ⟨rfl, g8, gv8, gr8⟩
  have hst0 : ((St.empty n 4000).added T).given = 1 := rfl
  rw [hst0] at gv8
  have U8 : Hid _ := U7.out.beside G7.out (Ne.symm hsu) hpos gr8
  generalize ((St.empty n 4000).added T).swps (lvls n here) = st at *
  have G8 : Hid _ := g8
  have GV : Hid (st.given = 1) := gv8
  clear g8 gv8 gr8 G7 U7 hst0
  go_wp2_with fail
  refine (gv_swaps U8.out HT.out).mono ?_
  rintro e w9 ⟨rfl, u9, uv9, gr9⟩
  have hsu0 : (St.empty m 4000).given = 0 := rfl
  rw [hsu0] at uv9
  have G9 : Hid _ := G8.out.beside U8.out hsu hpos gr9
  generalize (St.empty m 4000).swps (lvls m there) = su at *
  have U9 : Hid _ := u9
  have UV : Hid (su.given = 0) := uv9
  have KE : Hid (Calls Tryd.prog 40 #[.pointer (some ⟨s, 0, none⟩), .int .u32 1] w9 fun e w' => e = .returned (.tuple #[.string ⟨(textOf n T).toArray⟩, .int .i64 0]) ∧ Below w9.heap.size w9 w') := gv_export (a := 1) G9.out (by simp)
  clear u9 uv9 gr9 G8 U8 hsu0
  go_wp2_with fail
  refine KE.out.mono ?_
  rintro e w10 ⟨rfl, b10⟩
  have G10 : Hid _ := G9.out.below b10
  have U10 : Hid _ := U9.out.below b10
  clear b10 KE G9 U9
  have hxe : (textOf n T == []) = false := by rw [beq_eq_false_iff_ne]; exact HX.out
  have hxx : (textOf n T == textOf n T) = true := by simp
  have KI : Hid (Calls Tryd.prog 41 #[.pointer (some ⟨s, 0, none⟩), .string ⟨(textOf n T).toArray⟩] w10 fun e w' => e = .returned (.tuple #[.int .u32 2, .int .i64 0]) ∧ Gv w2 w' s n (st.added T) [(1, T), (2, T)] ∧ w10.grownBy w' (some s)) := by
    have := gv_import G10.out (by have := HX2.out; omega) HRN.out (by simp) (by rw [GV.out]; omega)
    rw [GV.out] at this
    exact this
  go_wp2_with fail
  refine KI.out.mono ?_
  rintro e w11 ⟨rfl, g11, gr11⟩
  have G11 : Hid _ := g11
  have U11 : Hid _ := U10.out.beside G10.out (Ne.symm hsu) hpos gr11
  have KS : Hid (Calls Tryd.prog 19 #[.pointer (some ⟨s, 0, none⟩), .int .u32 1, .int .u32 2] w11 fun e w' => e = .returned (.tuple #[.bool true, .int .i64 0]) ∧ w' = w11) := by
    have := gv_same (a := 1) (b := 2) (f := T) (g := T) g11 (by simp) (by simp)
    rw [show decide (T = T) = true from by simp] at this
    exact this
  clear g11 gr11 G10 U10 KI
  go_wp2_with fail
  refine KS.out.mono ?_
  rintro e w12 ⟨rfl, rfl⟩
  have KI : Hid (Calls Tryd.prog 41 #[.pointer (some ⟨u, 0, none⟩), .string ⟨(textOf n T).toArray⟩] w12 fun e w' => e = .returned (.tuple #[.int .u32 1, .int .i64 0]) ∧ Gv w2 w' u m (su.added (ext n m T)) [(1, ext n m T)] ∧ w12.grownBy w' (some u)) := by
    have := gv_import U11.out (by have := HX2.out; omega) HRM.out (by simp) (by rw [UV.out]; omega)
    rw [UV.out] at this
    exact this
  clear KS
  go_wp2_with fail
  refine KI.out.mono ?_
  rintro e w13 ⟨rfl, u13, gr13⟩
  have U13 : Hid _ := u13
  have KT : Hid (Calls Tryd.prog 42 #[.pointer (some ⟨u, 0, none⟩), .int .u32 1] w13 fun e w' => e = .returned (.tuple #[.int .u64 (ext n m T : Nat), .int .i64 0]) ∧ Below w13.heap.size w13 w') := gv_table (a := 1) u13 (by simp)
  clear u13 gr13 G11 U11 KI
  go_wp2_with fail
  refine KT.out.mono ?_
  rintro e w14 ⟨rfl, b14⟩
  have u14 := U13.out.below b14
  have KE : Hid (Calls Tryd.prog 40 #[.pointer (some ⟨u, 0, none⟩), .int .u32 1] w14 fun e w' => e = .returned (.tuple #[.string ⟨(textOf n T).toArray⟩, .int .i64 0]) ∧ Below w14.heap.size w14 w') := by
    have := gv_export (a := 1) (f := ext n m T) u14 (by simp)
    rw [HTM.out] at this
    exact this
  have U14 : Hid _ := u14
  clear u14 b14 U13 KT
  go_wp2_with fail
  refine KE.out.mono ?_
  rintro e w15 ⟨rfl, b15⟩
  have B15 : Hid (Below w2.heap.size w2 w15) := (U14.out.below b15).bel
  have hUE := ((Cho.ext_tab n m T).u64 hm6)
  have hUT := HTB.out.u64 hn6
  have HBT : Hid (∀ p, p < 2 ^ m → (ext n m T).testBit p = T.testBit (p % 2 ^ n)) := fun p hp => Cho.ext_bit hp
  clear b15 U14 KE HRN HRM HTM HX HX2 hxe
  generalize ext n m T = E at *
  generalize textOf n T = X at *
  have hM := Cho.two_pow_le m hm6
  have hN := Cho.two_pow_le n hn6
  have HWM : Hid (wrap64 (2 ^ m) = ((2 ^ m : Nat) : Int)) := wrap64_pow m hm6
  have HWN : Hid (wrap64 (2 ^ n) = ((2 ^ n : Nat) : Int)) := wrap64_pow n hn6
  have HND : Hid (∀ p : Nat, p < 64 → bits .and .i64 (p : Int) (((2 ^ n : Nat) : Int) - 1) = ((p % 2 ^ n : Nat) : Int)) := fun p hp => and_mod p hp n hn6
  have hN0 := Nat.two_pow_pos n
  generalize 2 ^ m = M at *
  generalize 2 ^ n = N at *
  have HBT2 : Hid (∀ p : Nat, p < M → E.testBit p = T.testBit (p % N)) := HBT.out
  go_wp2_with fail
  go_loopw [27] (fun x27 wr => ∃ p : Nat, p ≤ M ∧ x27 = .int .i64 (p : Nat) ∧ Hid (Below w2.heap.size w2 wr)) (fun x27 _ => M - (intOf x27).toNat)
  case atStart => exact ⟨0, Nat.zero_le _, rfl, B15⟩
  case round =>
    obtain ⟨p, hp, rfl, BW⟩ := hrel
    by_cases hpm : p < M
    · have hp64 : p < 64 := Nat.lt_of_lt_of_le hpm hM
      have hq : p % N < 64 := Nat.lt_of_lt_of_le (Nat.mod_lt _ hN0) hN
      have hpm' : (p : Int) < (M : Int) := Int.ofNat_lt.2 hpm
      have hwm := HWM.out
      go_wp2_with fail
      clear hwm
      have hwn : ∀ k : Nat, k = n → wrap64 (2 ^ k) = (N : Int) := fun k e => by rw [e]; exact HWN.out
      have hand : ∀ p' : Nat, p' = p → bits .and .i64 (p' : Int) ((N : Int) - 1) = ((p % N : Nat) : Int) := fun p' e => by rw [e]; exact HND.out p hp64
      have he := HBT2.out p hpm
      obtain ⟨V, hV⟩ : ∃ V : Int, V = ((if T.testBit (p % N) then 1 else 0 : Nat) : Int) := ⟨_, rfl⟩
      have hbE : ∀ q' : Nat, q' = p → bits .and .u64 ((E : Int) / 2 ^ q') 1 = V := fun q' e => by rw [e, hV, ← he]; exact bit_at E p hUE
      have hbT : ∀ q' : Nat, q' = p % N → bits .and .u64 ((T : Int) / 2 ^ q') 1 = V := fun q' e => by rw [e, hV]; exact bit_at T _ hUT
      clear hV he
      generalize p % N = q at *
      go_quiet (fail)
      go_wp2_with fail
      exact ⟨⟨p + 1, hpm, by go_num, below_drewN BW.out nq⟩, by simp [intOf]; omega⟩
    · have hpm' : ¬ (p : Int) < (M : Int) := fun h => hpm (Int.ofNat_lt.1 h)
      have hwm := HWM.out
      go_wp2_with fail
      go_ret
      exact ⟨rfl, BW.out⟩
end Go.Proofs.YthoodkbdpnffdaaDoor
