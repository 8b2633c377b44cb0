/-
  Own work: 'Tight' answers true, whatever its arguments (a walk over the contracts of the calls).
-/
import Derived.Test.YthoodkbdpnffdaaDoorFilledW
namespace Go.Proofs.YthoodkbdpnffdaaDoor
open Go.RowKit
open Cho (U64 Tab full col Nd Red)

theorem nsOf_mono (n : Nat) (us vs : List Nat) : (nsOf n us).length ≤ (nsOf n (us ++ vs)).length := by
  induction vs generalizing us with
  | nil => simp
  | cons v vs ih =>
    have e : us ++ v :: vs = (us ++ [v]) ++ vs := by simp
    rw [e]
    exact Nat.le_trans (nsOf_le n us v) (ih _)
theorem nsOf_take (n : Nat) (ts : List Nat) (k : Nat) : (nsOf n (ts.take k)).length ≤ (nsOf n ts).length := by
  have := nsOf_mono n (ts.take k) (ts.drop k)
  rwa [List.take_append_drop] at this

theorem beq0 {k : Nat} (h : 0 < k) : ((k : Int) == 0) = false := by rw [beq_eq_false_iff_ne]; omega

set_option maxRecDepth 100000 in
set_option maxHeartbeats 4000000 in
theorem tight_walk (raw : Int) (cap : Nat) (ao : Option Addr) (l : List Nat) (w : World) (hc : Cols w) (hl : SlU w ao l) (hu : ∀ t ∈ l, U64 t) (hll : l.length ≤ 9223372036854775807) (h1 : -9223372036854775808 ≤ raw) (h2 : raw ≤ 9223372036854775807) :
    Calls Tryd.prog 6 #[.int .i64 raw, .slice ao l.length cap] w fun e w' => e = .returned (.bool true) ∧ Below w.heap.size w w' := by
  have HL : Hid (SlU w ao l) := hl
  have HU : Hid (∀ t ∈ l, U64 t) := hu
  have HC : Hid (Cols w) := hc
  clear hl hu hc
  go_enter Tryd.func6, Tryd.ntmps6
  go_wp2_with fail
  refine (vars_calls raw _ h1 h2).mono ?_
  rintro e w1 ⟨⟨n, hn1, hn6, rfl⟩, rfl⟩
  go_wp2_with fail
  refine (filled_calls n cap ao l _ hn1 hn6 HC.out HL.out HU.out hll).mono ?_
  rintro e w2 ⟨s, hs', rfl, f2, o2⟩
  obtain ⟨ah, caph, rfl⟩ := owns_slice o2
  have F2 : Hid (Mk w1.heap.size w1 w2 s n 4000 (tabsOf n l)) := f2
  have HLEN : Hid ((tabsOf n l).length = min 20 l.length) := tabsOf_len n l
  have hle20 : (tabsOf n l).length ≤ 20 := by rw [HLEN.out]; omega
  have hlel : (tabsOf n l).length ≤ l.length := by rw [HLEN.out]; omega
  have HNS : Hid ((nsOf n (tabsOf n l)).length ≤ 63 * (tabsOf n l).length) := nsOf_small n hn6 _
  clear f2 o2 HC
  go_wp2_with fail
  refine (mk_used _ _ _ s n 4000 _ F2.out).mono ?_
  rintro e w3 ⟨rfl, rfl⟩
  have hneed : (nsOf n (tabsOf n l)).length ≤ 1260 := by have := HNS.out; omega
  generalize hND : (nsOf n (tabsOf n l)).length = need at *
  have HND : Hid ((nsOf n (tabsOf n l)).length = need) := hND
  clear hND
  have BEL3 : Hid (Below w1.heap.size w1 w3) := F2.out.bel
  by_cases hz : need = 0
  · subst hz
    by_cases hk0 : (tabsOf n l).length = 0
    · have hk0' : (((tabsOf n l).length : Int) == 0) = true := by simp [hk0]
      have HK0 : Hid ((tabsOf n l).length = 0) := hk0
      clear hk0
      go_wp2_with fail
      go_ret
      exact ⟨by simp, BEL3.out⟩
    · have hk0' : (((tabsOf n l).length : Int) == 0) = false := beq0 (by omega)
      go_wp2_with fail
      go_ret
      exact ⟨by simp, BEL3.out⟩
  · have hz' : ((need : Int) == 0) = false := by simp; omega
    have hk1 : 0 < (tabsOf n l).length := by have := HNS.out; omega
    have hk0' : (((tabsOf n l).length : Int) == 0) = false := beq0 hk1
    have hC3 : Cols w3 := F2.out.cols
    have HC3 : Hid (Cols w3) := hC3
    have hsz3 : w1.heap.size ≤ w3.heap.size := BEL3.out.size
    clear hC3 F2 HNS
    go_wp2_with fail
    refine (mk_new w1.heap.size w1 _ n need hsz3 BEL3.out hn1 hn6 (by omega) (by omega) HC3.out).mono ?_
    rintro e w4 ⟨t, rfl, f4, b4⟩
    have F4 : Hid (Mk w1.heap.size w1 w4 t n need []) := f4
    clear f4 b4 BEL3 HC3
    go_wp2_with fail
    go_loopw [11, 12] (fun x11 x12 wr => ∃ k : Nat, k ≤ (tabsOf n l).length ∧ x12 = .int .i64 k ∧ x11 = .int .i64 0 ∧ Hid (Mk w1.heap.size w1 wr t n need ((tabsOf n l).take k))) (fun _ x12 _ => (tabsOf n l).length - (intOf x12).toNat)
    case atStart => exact ⟨0, Nat.zero_le _, rfl, rfl, F4⟩
    case round =>
      obtain ⟨k, hk, rfl, rfl, FR⟩ := hrel
      clear F4
      by_cases hkl : k < (tabsOf n l).length
      · have hk20 : k < 20 := by omega
        have hkll : k < l.length := by omega
        obtain ⟨g, o, hao, hg, hcell⟩ := HL.out k hkll
        have e1 : wr.cell? ⟨g, o + k, none⟩ = some (.int .u64 (l[k] : Nat)) := (FR.out.bel.cell (p := ⟨g, o + k, none⟩) hg).trans hcell
        have ut := HU.out l[k] (List.getElem_mem hkll)
        have HT : Hid ((tabsOf n l).take (k + 1) = (tabsOf n l).take k ++ [cutT l[k] n]) := take_snoc _ _ _ (tabsOf_get n l k hkll hk20)
        have HLK : Hid (((tabsOf n l).take k).length = k) := by show ((tabsOf n l).take k).length = k; simp; omega
        have HRM : Hid ((nsOf n ((tabsOf n l).take (k + 1))).length ≤ need) := by
          show (nsOf n ((tabsOf n l).take (k + 1))).length ≤ need
          rw [← HND.out]; exact nsOf_take n _ _
        clear hcell
        generalize l[k] = x at *
        have TT : Hid (Tab n (cutT x n)) := cut_tab x n
        subst hao
        go_wp2_with fail
        refine (cut_calls x n _ ut hn6).mono ?_
        rintro e w5 ⟨rfl, rfl⟩
        generalize cutT x n = T at *
        go_wp2_with fail
        refine (mk_make _ _ _ t n need T _ (k + 1) FR.out (by rw [HLK.out]) (by rw [HLK.out]; omega) TT.out (by rw [← HT.out]; exact HRM.out)).mono ?_
        rintro e w6 ⟨rfl, f6, _⟩
        have F6 : Hid (Mk w1.heap.size w1 w6 t n need ((tabsOf n l).take (k + 1))) := by
          show Mk w1.heap.size w1 w6 t n need ((tabsOf n l).take (k + 1)); rw [HT.out]; exact f6
        clear f6 FR
        go_wp2_with fail
        exact ⟨⟨k + 1, hkl, by go_num, rfl, F6⟩, by simp [intOf]; omega⟩
      · have FE : Hid (Mk w1.heap.size w1 wr t n need (tabsOf n l)) := by
          have := FR.out; rw [List.take_of_length_le (by omega)] at this; exact this
        clear FR
        go_wp2_with fail
        have hused := mk_used _ _ _ t n need _ FE.out
        rw [HND.out] at hused
        refine hused.mono ?_
        rintro e w7 ⟨rfl, rfl⟩
        clear hused
        have BEL7 : Hid (Below w1.heap.size w1 w7) := FE.out.bel
        have HC7 : Hid (Cols w7) := FE.out.cols
        have hsz7 : w1.heap.size ≤ w7.heap.size := BEL7.out.size
        clear FE
        by_cases h1n : need = 1
        · subst h1n
          go_wp2_with fail
          go_ret
          exact ⟨rfl, BEL7.out⟩
        · have h1n' : ((need : Int) == 1) = false := by simp; omega
          go_wp2_with fail
          have em : ((need : Int) - 1) = ((need - 1 : Nat) : Int) := by omega
          rw [em]
          have hm1 : 1 ≤ need - 1 := by omega
          have hm4 : need - 1 ≤ 4000 := by omega
          refine (mk_new w1.heap.size w1 _ n (need - 1) hsz7 BEL7.out hn1 hn6 hm1 hm4 HC7.out).mono ?_
          rintro e w8 ⟨u, rfl, f8, _⟩
          have F8 : Hid (Mk w1.heap.size w1 w8 u n (need - 1) []) := f8
          clear f8 BEL7 HC7 em hkl hsz7 hsz3 hk
          go_wp2_with fail
          go_loopw [11, 14] (fun x11 x14 wr => ∃ k : Nat, k ≤ (tabsOf n l).length ∧ x14 = .int .i64 k ∧ x11 = .int .i64 0 ∧ (nsOf n ((tabsOf n l).take k)).length ≤ need - 1 ∧ Hid (Mk w1.heap.size w1 wr u n (need - 1) ((tabsOf n l).take k))) (fun _ x14 _ => (tabsOf n l).length - (intOf x14).toNat)
          case atStart => exact ⟨0, Nat.zero_le _, rfl, rfl, by simp [nsOf], F8⟩
          case round =>
            obtain ⟨k, hk, rfl, rfl, hfit, FR⟩ := hrel
            clear F8
            have hkl : k < (tabsOf n l).length := by
              apply Classical.byContradiction
              intro hno
              rw [List.take_of_length_le (by omega), HND.out] at hfit
              omega
            have hk20 : k < 20 := by omega
            have hkll : k < l.length := by omega
            obtain ⟨g, o, hao, hg, hcell⟩ := HL.out k hkll
            have old : ∀ wx, Below w1.heap.size w1 wx → wx.cell? ⟨g, o + k, none⟩ = some (.int .u64 (l[k] : Nat)) := fun wx hb => (hb.cell (p := ⟨g, o + k, none⟩) hg).trans hcell
            have e1 := old wr FR.out.bel
            have ut := HU.out l[k] (List.getElem_mem hkll)
            have HT : Hid ((tabsOf n l).take (k + 1) = (tabsOf n l).take k ++ [cutT l[k] n]) := take_snoc _ _ _ (tabsOf_get n l k hkll hk20)
            have HLK : Hid (((tabsOf n l).take k).length = k) := by show ((tabsOf n l).take k).length = k; simp; omega
            clear hcell old
            generalize l[k] = x at *
            have TT : Hid (Tab n (cutT x n)) := cut_tab x n
            subst hao
            have US : Hid (Calls Tryd.prog 26 #[.pointer (some ⟨u, 0, none⟩)] wr fun e w' => e = .returned (.int .i64 ((nsOf n ((tabsOf n l).take k)).length : Nat)) ∧ w' = wr) := mk_used _ _ _ u n _ _ FR.out
            generalize hbf : (nsOf n ((tabsOf n l).take k)).length = bf at *
            have HBF : Hid ((nsOf n ((tabsOf n l).take k)).length = bf) := hbf
            clear hbf
            go_wp2_with fail
            refine US.out.mono ?_
            rintro e w9 ⟨rfl, rfl⟩
            go_wp2_with fail
            refine (cut_calls x n _ ut hn6).mono ?_
            rintro e w10 ⟨rfl, rfl⟩
            generalize cutT x n = T at *
            go_wp2_with fail
            by_cases hroom : (nsOf n ((tabsOf n l).take k ++ [T])).length ≤ need - 1
            · refine (mk_make _ _ _ u n (need - 1) T _ (k + 1) FR.out (by rw [HLK.out]) (by rw [HLK.out]; omega) TT.out hroom).mono ?_
              rintro e w11 ⟨rfl, f11, _⟩
              have F11 : Hid (Mk w1.heap.size w1 w11 u n (need - 1) ((tabsOf n l).take (k + 1))) := by
                show Mk w1.heap.size w1 w11 u n (need - 1) ((tabsOf n l).take (k + 1)); rw [HT.out]; exact f11
              have HRM : Hid ((nsOf n ((tabsOf n l).take (k + 1))).length ≤ need - 1) := by
                show (nsOf n ((tabsOf n l).take (k + 1))).length ≤ need - 1; rw [HT.out]; exact hroom
              clear f11 FR US hroom
              go_wp2_with fail
              have US2 := mk_used _ _ _ u n _ _ F11.out
              refine US2.mono ?_
              rintro e w12 ⟨rfl, rfl⟩
              have hle := HRM.out
              clear US2
              generalize (nsOf n ((tabsOf n l).take (k + 1))).length = af at hle ⊢
              go_wp2_with fail
              exact ⟨⟨k + 1, hkl, by go_num, rfl, HRM.out, F11⟩, by simp [intOf]; omega⟩
            · refine (mk_refused _ _ _ u n (need - 1) T _ FR.out (by rw [HLK.out]; omega) TT.out (by omega)).mono ?_
              rintro e w11 ⟨rfl, f11, _⟩
              have F11 : Hid (Mk w1.heap.size w1 w11 u n (need - 1) ((tabsOf n l).take k)) := f11
              clear f11 FR US hroom
              go_wp2_with fail
              have US2 := mk_used _ _ _ u n _ _ F11.out
              rw [HBF.out] at US2
              refine US2.mono ?_
              rintro e w12 ⟨rfl, rfl⟩
              have BELE : Hid (Below w1.heap.size w1 w12) := F11.out.bel
              clear US2
              go_wp2_with fail
              go_ret
              exact ⟨by simp, BELE.out⟩
end Go.Proofs.YthoodkbdpnffdaaDoor
