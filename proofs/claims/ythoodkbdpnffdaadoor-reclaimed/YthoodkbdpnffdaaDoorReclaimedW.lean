/-
  Own work: 'Reclaimed' answers true, whatever its arguments (a walk over the contracts of the calls).
-/
import Derived.Test.YthoodkbdpnffdaaDoorLvW
import Derived.Test.YthoodkbdpnffdaaDoorTightW
namespace Go.Proofs.YthoodkbdpnffdaaDoor
open Go.RowKit
open Cho (U64 Tab full col Nd Red)

theorem hrow_cell {w : World} {B m caph : Nat} {ah : Option Addr} (h : w.ownsRow B 30 1 (.slice ah m caph) m (hv ((List.range m).map (· + 1)))) {k : Nat} (hk : k < m) :
    ∃ gh, ah = some ⟨gh, 0, none⟩ ∧ gh < w.heap.size ∧ w.cell? ⟨gh, k, none⟩ = some (.int .u32 ((k : Int) + 1)) := by
  obtain ⟨gh, cap, e, _, _⟩ := owns_form h (by omega)
  simp only [Value.slice.injEq] at e
  obtain ⟨rfl, _, _⟩ := e
  have hc := h.cells (g := gh) rfl k (.int .u32 ((k : Int) + 1)) (by simp [hv, hk])
  have ea : (⟨gh, 0, none⟩ : Addr).add k = ⟨gh, k, none⟩ := by simp [Addr.add]; exact Eq.symm
  rw [ea] at hc
  exact ⟨gh, rfl, World.block_lt_of_cell? w _ hc, hc⟩
theorem hrow_below {w w' : World} {B n : Nat} {v : Value} {xs : List Value} (h : w.ownsRow B 30 1 v n xs) (hb : Below w.heap.size w w') : w'.ownsRow B 30 1 v n xs := owns_below h hb rfl

set_option maxRecDepth 100000 in
set_option maxHeartbeats 4000000 in
theorem reclaimed_walk (raw keep : Int) (cap : Nat) (ao : Option Addr) (l : List Nat) (w : World) (hc : Cols w) (hl : SlU w ao l) (hu : ∀ t ∈ l, U64 t) (hll : l.length ≤ 9223372036854775807) (h1 : -9223372036854775808 ≤ raw) (h2 : raw ≤ 9223372036854775807) (h3 : -9223372036854775808 ≤ keep) (h4 : keep ≤ 9223372036854775807) :
    Calls Tryd.prog 5 #[.int .i64 raw, .slice ao l.length cap, .int .i64 keep] w fun e w' => e = .returned (.bool true) ∧ Below w.heap.size w w' := by
  have HL : Hid (SlU w ao l) := hl
  have HU : Hid (∀ t ∈ l, U64 t) := hu
  have HC : Hid (Cols w) := hc
  clear hl hu hc
  go_enter Tryd.func5, Tryd.ntmps5
  go_wp2_with fail
  refine (vars_calls raw _ h1 h2).mono ?_
  rintro e w1 ⟨⟨n, hn1, hn6, rfl⟩, rfl⟩
  go_wp2_with fail
  refine (filled_calls n cap ao l _ hn1 hn6 HC.out HL.out HU.out hll).mono ?_
  rintro e w2 ⟨s, hs', rfl, f2, o2⟩
  obtain ⟨ah, caph, rfl⟩ := owns_slice o2
  have F2 : Hid (Mk w1.heap.size w1 w2 s n 4000 (tabsOf n l)) := f2
  have HLEN : Hid ((tabsOf n l).length = min 20 l.length) := tabsOf_len n l
  have hle20 : (tabsOf n l).length ≤ 20 := by rw [HLEN.out]; omega
  have hlel : (tabsOf n l).length ≤ l.length := by rw [HLEN.out]; omega
  have O2 : Hid (w2.ownsRow w1.heap.size 30 1 (.slice ah (tabsOf n l).length caph) (tabsOf n l).length (hv ((List.range (tabsOf n l).length).map (· + 1)))) := o2
  have HTS : Hid (∀ j (h : j < l.length), j < 20 → (tabsOf n l)[j]? = some (cutT l[j] n)) := fun j h h20 => tabsOf_get n l j h h20
  clear f2 o2 HC
  generalize tabsOf n l = ts at *
  generalize hm : ts.length = m at *
  have HM : Hid (ts.length = m) := hm
  clear hm
  go_wp2_with fail
  refine (mk_var _ _ _ s n 0 ts (m + 1) F2.out (by omega) (by rw [HM.out]) (by rw [HM.out]; omega)).mono ?_
  rintro e w3 ⟨rfl, ⟨st, f3, hfew⟩, g3⟩
  have O3 : Hid (w3.ownsRow w1.heap.size 30 1 (.slice ah m caph) m (hv ((List.range m).map (· + 1)))) := hrow_kept O2.out g3 F2.out.blk
  have HCNT : Hid (st.ns.length ≤ sumTo st ts.length + 1 ∧ 1 ≤ st.ns.length ∧ st.size (ts.length + 1) = 1) := lv_counts f3 hn1
  have F3 : Hid (Lv w1.heap.size w1 w3 s n (ts ++ [col 0 &&& full n]) (fun _ => True) st) := f3
  have HTL : Hid ((ts ++ [col 0 &&& full n]).length = m + 1) := by show (ts ++ [col 0 &&& full n]).length = m + 1; rw [List.length_append, HM.out]; rfl
  have HTI : Hid (∀ j, j < m → ∀ h : j < (ts ++ [col 0 &&& full n]).length, ts[j]? = some (ts ++ [col 0 &&& full n])[j]) := fun j hj h => by
    have hjt : j < ts.length := by rw [HM.out]; exact hj
    rw [List.getElem_append_left hjt, List.getElem?_eq_getElem hjt]
  rw [HM.out] at HCNT
  generalize ts ++ [col 0 &&& full n] = us at *
  clear f3 g3 F2 O2
  go_wp2_with fail
  refine (lv_used _ _ _ s n _ _ st F3.out).mono ?_
  rintro e w4 ⟨rfl, rfl⟩
  have h1ns := HCNT.out.2.1
  generalize hA : st.ns.length = all at *
  have HA : Hid (st.ns.length = all) := hA
  clear hA
  go_wp2_with fail
  go_loopw [14, 15, 16] (fun x14 x15 x16 wr => ∃ k : Nat, k ≤ m ∧ x16 = .int .i64 k ∧ x14 = .int .i64 ((1 + sumTo st k : Nat) : Int) ∧ x15 = .int .i64 (mostTo st k : Nat) ∧ Hid (Lv w1.heap.size w1 wr s n us (fun _ => True) st) ∧ Hid (wr.ownsRow w1.heap.size 30 1 (.slice ah m caph) m (hv ((List.range m).map (· + 1))))) (fun _ _ x16 _ => m - (intOf x16).toNat)
  case atStart => exact ⟨0, Nat.zero_le _, rfl, rfl, rfl, F3, O3⟩
  case round =>
    obtain ⟨k, hk, rfl, rfl, rfl, FR, OR⟩ := hrel
    clear F3 O3
    have hsum : sumTo st k ≤ 80000 := by
      have := sumTo_le st k
      have h20 : k ≤ 20 := by omega
      have := Nat.mul_le_mul h20 hfew
      rw [← HA.out] at this
      omega
    have hmost : mostTo st k ≤ all := by rw [← HA.out]; exact mostTo_le st (by rw [HA.out]; exact h1ns) k
    by_cases hkm : k < m
    · obtain ⟨gh, hah, hgh, hcell⟩ := hrow_cell OR.out hkm
      have hsz : st.size (k + 1) ≤ all := by rw [← HA.out]; exact size_le_ns st _
      have HS1 : Hid (sumTo st (k + 1) = sumTo st k + st.size (k + 1)) := rfl
      have HS2 : Hid (mostTo st (k + 1) = if mostTo st k < st.size (k + 1) then st.size (k + 1) else mostTo st k) := rfl
      subst hah
      have SZ : Hid (Calls Tryd.prog 27 #[.pointer (some ⟨s, 0, none⟩), .int .u32 ((k : Int) + 1)] wr fun e w' => e = .returned (.tuple #[.int .i64 (st.size (k + 1) : Nat), .int .i64 0]) ∧ Lv w1.heap.size w1 w' s n us (fun _ => True) st ∧ Below wr.heap.size wr w') := lv_size _ _ _ s n k us _ st ((k : Int) + 1) FR.out (by rw [HTL.out]; omega) trivial rfl
      generalize st.size (k + 1) = z at *
      generalize sumTo st k = sm at *
      generalize mostTo st k = mo at *
      go_wp2_with fail
      refine SZ.out.mono ?_
      rintro e w5 ⟨rfl, f5, b5⟩
      have F5 : Hid (Lv w1.heap.size w1 w5 s n us (fun _ => True) st) := f5
      have O5 : Hid (w5.ownsRow w1.heap.size 30 1 (.slice (some ⟨gh, 0, none⟩) m caph) m (hv ((List.range m).map (· + 1)))) := hrow_below OR.out b5
      clear f5 b5 SZ FR OR hcell hgh
      by_cases hgt : mo < z
      · have hgt' : (mo : Int) < (z : Int) := by omega
        go_wp2_with fail
        exact ⟨⟨k + 1, hkm, by go_num, val_int (by rw [HS1.out]; omega), val_int (by rw [HS2.out, if_pos hgt]), F5, O5⟩, by simp [intOf]; omega⟩
      · have hgt' : ¬ (mo : Int) < (z : Int) := by omega
        go_wp2_with fail
        exact ⟨⟨k + 1, hkm, by go_num, val_int (by rw [HS1.out]; omega), val_int (by rw [HS2.out, if_neg hgt]), F5, O5⟩, by simp [intOf]; omega⟩
    · obtain rfl : k = m := by omega
      have hcnt1 := HCNT.out.1
      have hcnt3 := HCNT.out.2.2
      generalize sumTo st k = sm at *
      generalize mostTo st k = mo at *
      have RX : Hid (Calls Tryd.prog 28 #[.pointer (some ⟨s, 0, none⟩), .int .u32 ((k : Int) + 1)] wr fun e w' => e = .returned (.int .i64 0) ∧ (∃ st', Lv w1.heap.size w1 w' s n us (fun j => True ∧ j ≠ k) st') ∧ wr.grownBy w' (some s)) := lv_release _ _ _ s n k us _ st ((k : Int) + 1) FR.out (by rw [HTL.out]; omega) trivial rfl
      by_cases hk0 : k = 0
      · have hk0' : ((k : Int) == 0) = true := by simp [hk0]
        have HALL : Hid (all = 1) := by
          have := lv_one' (j := k) FR.out (by rw [HTL.out]; omega) (fun i hi => by rw [HTL.out] at hi; simp; omega)
          rw [hcnt3, HA.out] at this
          exact this.symm
        have hall := HALL.out
        have HK0 : Hid (k = 0) := hk0
        clear hk0
        go_wp2_with fail
        refine RX.out.mono ?_
        rintro e w5 ⟨rfl, ⟨st5, f5⟩, g5⟩
        have B5 : Hid (Below w1.heap.size w1 w5) := f5.bel
        have U5 := lv_used _ _ _ s n _ _ st5 f5
        rw [lv_none f5 (fun i hi => by rw [HTL.out] at hi; have := HK0.out; simp; omega)] at U5
        have US : Hid (Calls Tryd.prog 26 #[.pointer (some ⟨s, 0, none⟩)] w5 fun e w' => e = .returned (.int .i64 ((0 : Nat) : Int)) ∧ w' = w5) := U5
        clear U5 f5 g5
        go_wp2_with fail
        refine US.out.mono ?_
        rintro e w6 ⟨rfl, rfl⟩
        go_wp2_with fail
        go_ret
        exact ⟨by simp, B5.out⟩
      · have hk0' : ((k : Int) == 0) = false := beq0 (by omega)
        go_wp2_with fail
        refine (pick_calls keep k _ h3 h4 (by omega) (by omega)).mono ?_
        rintro e w5 ⟨⟨j, hj, rfl⟩, rfl⟩
        go_wp2_with fail
        refine RX.out.mono ?_
        rintro e w6 ⟨rfl, ⟨st6, f6⟩, g6⟩
        have F6 : Hid (Lv w1.heap.size w1 w6 s n us (fun i => i < k ∧ (i = j ∨ 0 ≤ i)) st6) := f6.congr (fun i hi => by rw [HTL.out] at hi; simp; omega)
        have O6 : Hid (w6.ownsRow w1.heap.size 30 1 (.slice ah k caph) k (hv ((List.range k).map (· + 1)))) := hrow_kept OR.out g6 FR.out.blk
        clear f6 g6 FR OR RX HCNT HA hcnt1 hcnt3
        go_wp2_with fail
        go_loopw [12, 20] (fun x12 x20 wr => ∃ q : Nat, q ≤ k ∧ x20 = .int .i64 q ∧ x12 = .int .i64 0 ∧ Hid (∃ st', Lv w1.heap.size w1 wr s n us (fun i => i < k ∧ (i = j ∨ q ≤ i)) st') ∧ Hid (wr.ownsRow w1.heap.size 30 1 (.slice ah k caph) k (hv ((List.range k).map (· + 1))))) (fun _ x20 _ => k - (intOf x20).toNat)
        case atStart => exact ⟨0, Nat.zero_le _, rfl, rfl, ⟨st6, F6.out⟩, O6⟩
        case round =>
          obtain ⟨q, hq, rfl, rfl, FR, OR⟩ := hrel
          clear F6 O6
          obtain ⟨st7, f7⟩ := FR.out
          have F7 : Hid (Lv w1.heap.size w1 wr s n us (fun i => i < k ∧ (i = j ∨ q ≤ i)) st7) := f7
          clear f7 FR
          by_cases hqk : q < k
          · by_cases hqj : q = j
            · subst hqj
              have F8 : Hid (∃ st', Lv w1.heap.size w1 wr s n us (fun i => i < k ∧ (i = q ∨ q + 1 ≤ i)) st') := ⟨st7, F7.out.congr (fun i hi => by omega)⟩
              clear F7
              go_wp2_with fail
              exact ⟨⟨q + 1, hqk, by go_num, rfl, F8, OR⟩, by simp [intOf]; omega⟩
            · have hne : ((q : Int) == (j : Int)) = false := by simp; omega
              obtain ⟨gh, hah, hgh, hcell⟩ := hrow_cell OR.out hqk
              have RL : Hid (Calls Tryd.prog 28 #[.pointer (some ⟨s, 0, none⟩), .int .u32 ((q : Int) + 1)] wr fun e w' => e = .returned (.int .i64 0) ∧ (∃ st', Lv w1.heap.size w1 w' s n us (fun i => (i < k ∧ (i = j ∨ q ≤ i)) ∧ i ≠ q) st') ∧ wr.grownBy w' (some s)) := lv_release _ _ _ s n q us _ st7 ((q : Int) + 1) F7.out (by rw [HTL.out]; omega) ⟨hqk, .inr (Nat.le_refl _)⟩ rfl
              have HJ : Hid (q ≠ j) := hqj
              subst hah
              clear hqj
              go_wp2_with fail
              refine RL.out.mono ?_
              rintro e w8 ⟨rfl, ⟨st8, f8⟩, g8⟩
              have F8 : Hid (∃ st', Lv w1.heap.size w1 w8 s n us (fun i => i < k ∧ (i = j ∨ q + 1 ≤ i)) st') := ⟨st8, f8.congr (fun i hi => by have := HJ.out; omega)⟩
              have O8 : Hid (w8.ownsRow w1.heap.size 30 1 (.slice (some ⟨gh, 0, none⟩) k caph) k (hv ((List.range k).map (· + 1)))) := hrow_kept OR.out g8 F7.out.blk
              clear f8 g8 F7 OR RL hcell hgh
              go_wp2_with fail
              exact ⟨⟨q + 1, hqk, by go_num, rfl, F8, O8⟩, by simp [intOf]; omega⟩
          · obtain rfl : q = k := by omega
            obtain ⟨gh, hah, hgh, hcell⟩ := hrow_cell OR.out hj
            subst hah
            have F8 : Hid (Lv w1.heap.size w1 wr s n us (fun i => i = j) st7) := F7.out.congr (fun i hi => by omega)
            clear F7
            have hju : j < us.length := by rw [HTL.out]; omega
            have HSO : Hid (st7.size (j + 1) = st7.ns.length) := lv_one' (j := j) F8.out hju (fun i _ => Iff.rfl)
            have hjl : j < l.length := by omega
            have hj20 : j < 20 := by omega
            have HTJ : Hid (us[j] = cutT l[j] n) := by
              have a := HTI.out j hj hju
              rw [HTS.out j hjl hj20] at a
              exact (Option.some.inj a).symm
            obtain ⟨gl, ol, hal, hgl, hlc⟩ := HL.out j hjl
            have ut := HU.out l[j] (List.getElem_mem hjl)
            clear HU HL HTS HTI
            go_wp2_with fail
            refine (lv_size _ _ _ s n j us _ st7 ((j : Int) + 1) F8.out hju rfl rfl).mono ?_
            rintro e w9 ⟨rfl, f9, b9⟩
            have F9 : Hid (Lv w1.heap.size w1 w9 s n us (fun i => i = j) st7) := f9
            have O9 : Hid (w9.ownsRow w1.heap.size 30 1 (.slice (some ⟨gh, 0, none⟩) q caph) q (hv ((List.range q).map (· + 1)))) := hrow_below OR.out b9
            clear f9 b9 F8 OR hcell hgh
            rw [HSO.out]
            go_wp2_with fail
            refine (lv_used _ _ _ s n _ _ st7 F9.out).mono ?_
            rintro e w10 ⟨rfl, rfl⟩
            have hns := F9.out.has.few
            generalize st7.ns.length = left at *
            obtain ⟨gh', hah', hgh, hcell⟩ := hrow_cell O9.out hj
            obtain rfl : gh = gh' := by simpa using hah'
            subst hal
            have hlc' : w10.cell? ⟨gl, ol + j, none⟩ = some (.int .u64 (l[j] : Nat)) := (F9.out.bel.cell (p := ⟨gl, ol + j, none⟩) hgl).trans hlc
            have hglw : gl < w10.heap.size := by have := F9.out.bel.size; omega
            have HIS : Hid (Calls Tryd.prog 18 #[.pointer (some ⟨s, 0, none⟩), .int .u32 ((j : Int) + 1), .int .i64 0, .int .u64 (cutT l[j] n : Nat)] w10.drew fun e w' => e = .returned (.bool true) ∧ Lv w1.heap.size w1 w' s n us (fun i => i = j) st7 ∧ Below w10.drew.heap.size w10.drew w') :=
              lv_is _ _ _ s n j _ us _ st7 ((j : Int) + 1) (F9.out.below (Below.refl _ _).drew) hju rfl rfl HTJ.out
            have HCUT : Hid (∀ W : World, Calls Tryd.prog 15 #[.int .u64 (l[j] : Nat), .int .i64 n] W fun e w' => e = .returned (.int .u64 (cutT l[j] n : Nat)) ∧ w' = W) := fun W => cut_calls l[j] n W ut hn6
            clear hlc hah' ut hgl
            generalize l[j] = x at *
            have hjq : (j : Int) < (q : Int) := by omega
            have hjll : (j : Int) < (l.length : Int) := by omega
            go_wp2_with fail
            go_region_held3 (fun w' => w'.cell? ⟨gh, j, none⟩ = some (.int .u32 ((j : Int) + 1)) ∧ w'.cell? ⟨gl, ol + j, none⟩ = some (.int .u64 (x : Nat)))
              (first | exact ⟨hcell, hlc'⟩ | exact ⟨(B11.out.cell (p := ⟨gh, j, none⟩) hgh).trans hcell, (B11.out.cell (p := ⟨gl, ol + j, none⟩) hglw).trans hlc'⟩)
              (first
                | (go_at_call 15; refine (HCUT.out _).mono ?_; rintro e w' ⟨rfl, rfl⟩)
                | (go_at_call 18; refine HIS.out.mono ?_; rintro e w' ⟨rfl, f11, b11⟩; have F11 : Hid (Lv w1.heap.size w1 w' s n us (fun i => i = j) st7) := f11; have B11 : Hid (Below w10.heap.size w10 w') := (Below.refl w10.heap.size w10).drew.trans b11; clear f11 b11))
            have hc11 : w'.cell? ⟨gh, j, none⟩ = some (.int .u32 ((j : Int) + 1)) := (B11.out.cell (p := ⟨gh, j, none⟩) hgh).trans hcell
            have hgh11 : gh < w'.heap.size := by have := B11.out.size; omega
            have HJQ : Hid (¬ q = j) := by show ¬ q = j; omega
            clear hcell hlc'
            go_wp2_with fail
            refine (lv_gone _ _ _ s n q us _ st7 ((q : Int) + 1) F11.out HJQ.out rfl).mono ?_
            rintro e w12 ⟨rfl, rfl⟩
            go_wp2_with fail
            refine (lv_release _ _ _ s n j us _ st7 ((j : Int) + 1) F11.out hju rfl rfl).mono ?_
            rintro e w13 ⟨rfl, ⟨st13, f13⟩, g13⟩
            have B13 : Hid (Below w1.heap.size w1 w13) := f13.bel
            have U13 := lv_used _ _ _ s n _ _ st13 f13
            rw [lv_none f13 (fun i hi h => h.2 h.1)] at U13
            have US : Hid (Calls Tryd.prog 26 #[.pointer (some ⟨s, 0, none⟩)] w13 fun e w' => e = .returned (.int .i64 ((0 : Nat) : Int)) ∧ w' = w13) := U13
            clear U13 f13 g13
            go_wp2_with fail
            refine US.out.mono ?_
            rintro e w14 ⟨rfl, rfl⟩
            go_wp2_with fail
            go_ret
            exact ⟨by simp, B13.out⟩
end Go.Proofs.YthoodkbdpnffdaaDoor
