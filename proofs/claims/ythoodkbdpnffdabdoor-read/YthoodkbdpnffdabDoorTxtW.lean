/-
  Own work: the program writes a text (walks).
-/
import Derived.Test.YthoodkbdpnffdabDoorTxtC
import Derived.Test.YthoodkbdpnffdabDoorNewW
namespace Go.Proofs.YthoodkbdpnffdabDoor
open Go.RowKit
open Cho (U64 Tab full col decL dgt Nd Red lnk tb itm rend Txt Says textOf nodesOf linkOf)

theorem own_less {w : World} {B B' : Nat} {e : TypeId} {sz : Nat} {v : Value} {n : Nat} {xs : List Value} (h : w.ownsRow B e sz v n xs) (hb : B' ≤ B) : w.ownsRow B' e sz v n xs := by
  obtain ⟨hlen, h | ⟨g, cap, cur, rfl, h1, h2⟩⟩ := h
  · exact ⟨hlen, .inl h⟩
  · exact ⟨hlen, .inr ⟨g, cap, cur, rfl, by omega, h2⟩⟩
theorem own_node (W : World) : (W.alloc (.cells #[] 78)).ownsRow W.heap.size 78 3 (.slice (some ⟨W.heap.size, 0, none⟩) 0 0) 0 [] :=
  World.ownsRow_made W #[] 0 (Nat.le_refl _) (by simp) rfl

set_option maxRecDepth 100000 in
set_option maxHeartbeats 400000 in
theorem list_calls (s B : Nat) (ns : List Nd) (nv : Value) (w : World) (h1 : w.cell? ⟨s, 1, none⟩ = some nv) (hr : w.ownsRow B 78 3 nv ns.length (flat ns)) (hn1 : 1 ≤ ns.length) (hn : ns.length ≤ 1000) :
    Calls Tryd.prog 29 #[.pointer (some ⟨s, 0, none⟩)] w fun e w' => ∃ v', e = .returned v' ∧ w'.ownsRow w.heap.size 78 3 v' ns.length (flat ns) ∧ Below w.heap.size w w' := by
  obtain ⟨i0, hi, hz0, hz1, hz2⟩ := info_parts Tryd.infoNode
  have hs := World.block_lt_of_cell? w _ h1
  simp only at hs
  obtain ⟨g, cap, rfl, _, _⟩ := owns_form hr (by omega)
  have h1' : (w.alloc (.cells #[] 78)).cell? ⟨s, 1, none⟩ = some (.slice (some ⟨g, 0, none⟩) ns.length cap) := with_al h1
  have HSRC : Hid (∀ j u, (flat ns)[j]? = some u → (w.alloc (.cells #[] 78)).cell? ((⟨g, 0, none⟩ : Addr).add j) = some u) := fun j u hu => (hr.alloc _).cells (g := g) rfl j u hu
  have F1 : Hid (0 + ns.length ≤ maxLen) := by show 0 + ns.length ≤ maxLen; unfold maxLen; omega
  have F2 : Hid ((0 + ns.length) * 24 ≤ 140737488355328) := by show (0 + ns.length) * 24 ≤ 140737488355328; omega
  have F4 : Hid ((flat ns).length = ns.length * 3) := flat_len ns
  clear hr
  go_enter Tryd.func29, Tryd.ntmps29
  go_wp2_with (at_builtin; go_must (refine wpList_append_own _ rfl _ _ 49 rfl w.heap.size 78 i0 _ 3 24 Tryd.underlying49 hi hz0 hz1 hz2 rfl (Nat.succ_pos 2) (.slice (some ⟨w.heap.size, 0, none⟩) 0 0) 0 [] ?e1 (own_node w) ⟨g, 0, none⟩ ns.length cap (flat ns) ?e2 F4.out HSRC.out (flat_one ns) F1.out F2.out (by simp) ?_); (case e1 => rfl); (case e2 => rfl); intro v' w1 hown hgrow _; have HO : Hid (w1.ownsRow w.heap.size 78 3 v' ns.length (flat ns) ∧ Below w.heap.size w w1) := ⟨by rw [Nat.zero_add, List.nil_append] at hown; exact hown, ((Below.refl _ w).alloc (Nat.le_refl _) _).grown hgrow (by simp) (fun k hk => by simp [Value.ownBlock] at hk; omega)⟩; clear hown hgrow)
  go_ret
  exact ⟨_, rfl, HO.out.1, HO.out.2⟩

theorem build_range (n t : Nat) : Cho.build (List.range n) t [] = (nodesOf n t, linkOf n t) := by
  have e : List.range n = List.range' 0 (n - 0) := by rw [List.range_eq_range', Nat.sub_zero]
  rw [e]; rfl
/-- 'With' over a new diagram. -/
theorem with_new (s go capo n t : Nat) (w : World) (hs0 : w.cell? ⟨s, 0, none⟩ = some (.slice (some ⟨go, 0, none⟩) n capo)) (hs1 : w.cell? ⟨s, 1, none⟩ = some (.slice none 0 0)) (hc : Cols w) (ho : OrdAt w go (List.range n)) (h1 : 1 ≤ n) (h6 : n ≤ 6) (ht : U64 t) :
    Calls Tryd.prog 26 #[.pointer (some ⟨s, 0, none⟩), .int .u64 t] w fun e w' => ∃ nv',
      e = .returned (.tuple #[.agg #[.slice (some ⟨go, 0, none⟩) n capo, nv'], .int .i64 (linkOf n t : Nat)]) ∧ w'.ownsRow w.heap.size 78 3 nv' (nodesOf n t).length (flat (nodesOf n t)) ∧ Below w.heap.size w w' := by
  have hgo : go < w.heap.size := World.block_lt_of_cell? w _ (ho 0 (by simp; omega))
  have hs := World.block_lt_of_cell? w _ hs0
  have := with_calls s 0 go capo 0 (List.range n) [] (.slice none 0 0) t w (by rw [List.length_range]; exact hs0) hs1 (World.ownsRow_nil _ _ _ _) hc ho hs hgo (cols_pos hc) (fun v hv => by have := List.mem_range.1 hv; omega) (by simpa using h6) ht (by simp)
  rw [build_range, List.length_range] at this
  exact this
theorem link_zero {n : Nat} (h1 : 1 ≤ n) (h6 : n ≤ 6) : linkOf n 0 = 0 := by
  unfold linkOf; rw [Cho.sup_zero h1 h6 (Nat.zero_le _) (Red.nil _)]
theorem link_full {n : Nat} (h1 : 1 ≤ n) (h6 : n ≤ 6) : linkOf n (full n) = 1 := by
  unfold linkOf; rw [Cho.sup_full h1 h6 (Nat.zero_le _) (Red.nil _)]
theorem nodes_lt {n t k : Nat} (h6 : n ≤ 6) (ht : Tab n t) (hk : k < (nodesOf n t).length) : (nodesOf n t)[k].1 < 10 ∧ (nodesOf n t)[k].2.1 < 102 ∧ (nodesOf n t)[k].2.2 < 102 := by
  have hx := Cho.red_txt (Cho.nodes_blt h6 ht).red
  have hl := Cho.nodes_63 (n := n) (t := t) h6
  have h1 := hx.var k hk
  have h2 := (hx.no k hk).1
  have h3 := (hx.yes k hk).1
  exact ⟨by change (nodesOf n t)[k].1 < n at h1; omega, by change (nodesOf n t)[k].2.1 < k + 2 at h2; omega, by change (nodesOf n t)[k].2.2 < k + 2 at h3; omega⟩
theorem full_ne {n : Nat} : full n ≠ 0 := by
  unfold full
  have : 2 ≤ 2 ^ 2 ^ n := by
    have h := Nat.pow_le_pow_right (n := 2) (by decide) (Nat.two_pow_pos n)
    simpa using h
  omega

set_option maxRecDepth 100000 in
set_option maxHeartbeats 4000000 in
theorem write_calls (n t : Nat) (w : World) (h1 : 1 ≤ n) (h6 : n ≤ 6) (ht : Tab n t) (hc : Cols w) :
    Calls Tryd.prog 22 #[.int .u64 (t : Nat), .int .i64 (n : Nat)] w fun e w' => e = .returned (txt (textOf n t)) ∧ Below w.heap.size w w' := by
  have HC : Hid (Cols w) := hc
  have hU := ht.u64 h6
  have HT : Hid (Tab n t) := ht
  clear hc ht
  go_enter Tryd.func22, Tryd.ntmps22
  go_wp2_with fail
  refine (dnew_calls n _ h6).mono ?_
  rintro e w1 ⟨ov, rfl, hrow, hbel⟩
  obtain ⟨go, capo, rfl, hgB, cur, hcur⟩ := owns_form hrow (by omega)
  have hs1 := hbel.size
  have hgo := lt_of_block hcur
  have HW : Hid (Calls Tryd.prog 26 #[.pointer (some ⟨w1.heap.size, 0, none⟩), .int .u64 t] (w1.alloc (.cells #[.slice (some ⟨go, 0, none⟩) n capo, .slice none 0 0] 51)) fun e w' => ∃ nv',
      e = .returned (.tuple #[.agg #[.slice (some ⟨go, 0, none⟩) n capo, nv'], .int .i64 (linkOf n t : Nat)]) ∧ w'.ownsRow w.heap.size 78 3 nv' (nodesOf n t).length (flat (nodesOf n t)) ∧ Below w.heap.size w w') := by
    have hcol : Cols (w1.alloc (.cells #[.slice (some ⟨go, 0, none⟩) n capo, .slice none 0 0] 51)) := HC.out.below (hbel.alloc (by omega) _) (cols_pos HC.out)
    have hord : OrdAt (w1.alloc (.cells #[.slice (some ⟨go, 0, none⟩) n capo, .slice none 0 0] 51)) go (List.range n) := by
      intro i hi
      have hin : i < n := by simpa using hi
      rw [cell_alloc_old hgo]
      have := hrow.cells (g := go) rfl i (.int .i64 i) (by simp [lv, hin])
      rw [Addr.add_mid, Nat.zero_add] at this
      rw [this]; simp
    refine (with_new w1.heap.size go capo n t _ (cell_of_block (heap_res _ _) 0) (cell_of_block (heap_res _ _) 1) hcol hord h1 h6 hU).mono ?_
    rintro e w2 ⟨nv', rfl, hr, hb⟩
    exact ⟨nv', rfl, own_less hr (by simp; omega), (hbel.alloc (by omega) _).trans (hb.mono (by simp; omega))⟩
  clear hrow hcur hbel
  go_wp2_with fail
  refine HW.out.mono ?_
  rintro e w2 ⟨nv2, rfl, hr2, b2⟩
  obtain ⟨ao2, cap2, rfl⟩ := owns_slice hr2
  have HR2 : Hid (w2.ownsRow w.heap.size 78 3 (.slice ao2 (nodesOf n t).length cap2) (nodesOf n t).length (flat (nodesOf n t))) := hr2
  have B2 : Hid _ := b2
  have hs2 := b2.size
  clear hr2 b2 HW
  by_cases t0 : t = 0
  · have hl : linkOf n t = 0 := by rw [t0]; exact link_zero h1 h6
    have HX : Hid (textOf n t = [48]) := by show textOf n t = [48]; unfold textOf; rw [if_pos t0]
    rw [hl]
    go_wp2_with fail
    go_ret
    rw [HX.out]
    exact ⟨rfl, B2.out.alloc (by omega) _⟩
  · by_cases tf : t = full n
    · have hl : linkOf n t = 1 := by rw [tf]; exact link_full h1 h6
      have HX : Hid (textOf n t = [49]) := by show textOf n t = [49]; unfold textOf; rw [if_neg t0, if_pos tf]
      rw [hl]
      go_wp2_with fail
      go_ret
      rw [HX.out]
      exact ⟨rfl, B2.out.alloc (by omega) _⟩
    · obtain ⟨hne, hl⟩ := Cho.link_last h6 HT.out t0 tf
      have HX : Hid (textOf n t = rend (nodesOf n t)) := by show textOf n t = _; unfold textOf; rw [if_neg t0, if_neg tf]
      have hn1 : 1 ≤ (nodesOf n t).length := List.length_pos_iff.2 hne
      have hn63 : (nodesOf n t).length ≤ 63 := Cho.nodes_63 h6
      have HND : Hid (∀ k (hk : k < (nodesOf n t).length), (nodesOf n t)[k].1 < 10 ∧ (nodesOf n t)[k].2.1 < 102 ∧ (nodesOf n t)[k].2.2 < 102) := fun k hk => nodes_lt h6 HT.out hk
      have HSH : Hid (∀ k, k ≤ (nodesOf n t).length → (rend ((nodesOf n t).take k)).length ≤ 441) := by
        intro k hk
        have h3 := Cho.text_short h6 HT.out
        rw [HX.out] at h3
        have h4 : rend (nodesOf n t) = rend ((nodesOf n t).take k) ++ rend ((nodesOf n t).drop k) := by rw [← Cho.rend_app, List.take_append_drop]
        rw [h4, List.length_append] at h3
        omega
      rw [hl]
      clear hl hne t0 tf
      generalize nodesOf n t = ns at *
      have c1 : ((ns.length + 1 : Nat) : Int) ≠ 0 := by omega
      have c2 : ((ns.length + 1 : Nat) : Int) ≠ 1 := by omega
      generalize ((ns.length + 1 : Nat) : Int) = LK at *
      have KL : Hid (Calls Tryd.prog 29 #[.pointer (some ⟨w2.heap.size, 0, none⟩)] (w2.alloc (.cells #[.slice (some ⟨go, 0, none⟩) n capo, .slice ao2 ns.length cap2] 51)) fun e w' => ∃ v', e = .returned v' ∧ w'.ownsRow w.heap.size 78 3 v' ns.length (flat ns) ∧ Below w.heap.size w w') := by
        refine (list_calls w2.heap.size w.heap.size ns _ _ (cell_of_block (heap_res _ _) 1) (HR2.out.alloc _) hn1 (by omega)).mono ?_
        rintro e w3 ⟨v', rfl, hr, hb⟩
        exact ⟨v', rfl, own_less hr (by simp; omega), (B2.out.alloc (by omega) _).trans (hb.mono (by simp; omega))⟩
      go_wp2_with fail
      refine KL.out.mono ?_
      rintro e w3 ⟨v3, rfl, hr3, b3⟩
      obtain ⟨g3, cap3, rfl, _, _⟩ := owns_form hr3 (by omega)
      have HR3 : Hid (w3.ownsRow w.heap.size 78 3 (.slice (some ⟨g3, 0, none⟩) ns.length cap3) ns.length (flat ns)) := hr3
      have B3 : Hid _ := b3
      clear hr3 b3 KL HR2 B2
      go_wp2_with fail
      go_loopw [8, 28] (fun x8 x28 wr => ∃ k : Nat, k ≤ ns.length ∧ x8 = .string ⟨(rend (ns.take k)).toArray⟩ ∧ x28 = .int .i64 (k : Nat) ∧ Hid (Below w.heap.size w wr) ∧ Hid (wr.ownsRow w.heap.size 78 3 (.slice (some ⟨g3, 0, none⟩) ns.length cap3) ns.length (flat ns))) (fun _ x28 _ => ns.length - (intOf x28).toNat)
      case atStart => exact ⟨0, Nat.zero_le _, rfl, rfl, B3, HR3⟩
      case round =>
        obtain ⟨k, hk, rfl, rfl, BW, RW⟩ := hrel
        by_cases hkl : k < ns.length
        · obtain ⟨ao', cap', e', hblk, hcells⟩ := row_cell RW.out
          simp only [Value.slice.injEq] at e'
          obtain ⟨rfl, _, rfl⟩ := e'
          obtain ⟨g, eg, hgw, hcap, e0, e1, e2⟩ := hcells k hkl
          obtain rfl : g3 = g := by simpa using eg
          obtain ⟨l0, l1, l2⟩ := HND.out k hkl
          have HE : Hid (rend (ns.take (k + 1)) = rend (ns.take k) ++ ((((decL ns[k].1 ++ lnk ns[k].2.1) ++ [44]) ++ lnk ns[k].2.2) ++ [59])) := by
            show rend (ns.take (k + 1)) = _
            rw [List.take_succ_eq_append_getElem hkl, Cho.rend_snoc, Cho.decL_small l0]
            simp [itm]
          have hT := HSH.out k hk
          have hsw := BW.out.size
          clear hcells hblk eg
          generalize ns[k] = q at *
          obtain ⟨q0, q1, q2⟩ := q
          simp only at e0 e1 e2 l0 l1 l2 HE
          have KI : Hid (∀ W, Calls Tryd.prog 30 #[.int .i64 (q0 : Nat)] W fun e w' => e = .returned (.string ⟨(decL q0).toArray⟩) ∧ w' = W) := fun W => itoa_calls q0 (by omega) W
          have K1 : Hid (∀ W, Calls Tryd.prog 31 #[.int .i64 (q1 : Nat)] W fun e w' => e = .returned (.string ⟨(lnk q1).toArray⟩) ∧ w' = W) := fun W => linkText_calls q1 l1 W
          have K2 : Hid (∀ W, Calls Tryd.prog 31 #[.int .i64 (q2 : Nat)] W fun e w' => e = .returned (.string ⟨(lnk q2).toArray⟩) ∧ w' = W) := fun W => linkText_calls q2 l2 W
          have s0 : (decL q0).length ≤ 2 := Cho.decL_two (by omega)
          have s1 := Cho.lnk_len l1
          have s2 := Cho.lnk_len l2
          generalize hTT : rend (ns.take k) = T at *
          generalize decL q0 = D at *
          generalize lnk q1 = L1 at *
          generalize lnk q2 = L2 at *
          clear hTT l0 l1 l2
          have z0 := txt_size T
          have z1 := txt_size D
          have z2 := txt_size L1
          have z3 := txt_size L2
          have a1 := txt_app D L1
          have a2 := txt_app (D ++ L1) [44]
          have a3 := txt_app ((D ++ L1) ++ [44]) L2
          have a4 := txt_app (((D ++ L1) ++ [44]) ++ L2) [59]
          have a5 := txt_app T ((((D ++ L1) ++ [44]) ++ L2) ++ [59])
          go_wp2_with fail
          refine (KI.out _).mono ?_
          rintro e w4 ⟨rfl, rfl⟩
          go_wp2_with fail
          refine (K1.out _).mono ?_
          rintro e w4 ⟨rfl, rfl⟩
          go_wp2_with fail
          refine (K2.out _).mono ?_
          rintro e w4 ⟨rfl, rfl⟩
          go_wp2_with fail
          refine ⟨⟨k + 1, hkl, ?_, by go_num, BW.out.alloc (by omega) _, RW.out.alloc _⟩, by simp [intOf]; omega⟩
          rw [HE.out]
          show Value.string (ByteArray.mk T.toArray ++ (ByteArray.mk (D ++ (L1 ++ [44])).toArray ++ ByteArray.mk L2.toArray ++ ByteArray.mk [59].toArray)) = _
          rw [txt_app, txt_app, txt_app]
          simp only [List.append_assoc]
        · obtain rfl : k = ns.length := by omega
          have HE : Hid (rend (ns.take ns.length) = rend ns) := by show rend (ns.take ns.length) = rend ns; rw [List.take_length]
          go_wp2_with fail
          go_ret
          rw [HX.out, HE.out]
          exact ⟨rfl, BW.out⟩
end Go.Proofs.YthoodkbdpnffdabDoor
