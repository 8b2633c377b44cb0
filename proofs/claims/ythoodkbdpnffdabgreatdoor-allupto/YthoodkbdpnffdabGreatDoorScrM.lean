/-
  Own work: the steps of a script on one pair of stores: Release; all of them together (walks over contracts).
-/
import Derived.Test.YthoodkbdpnffdabGreatDoorLawC
import Derived.Test.YthoodkbdpnffdabGreatDoorPairM
namespace Go.Proofs.YthoodkbdpnffdabGreatDoor
open Go.RowKit
open Cho (U64 Tab full col Nd Red)

set_option maxRecDepth 100000 in
set_option maxHeartbeats 1000000 in
theorem makes_release (B : Nat) (p : Pr) (o : SOp) (w : World) (hk : o.kind = 7) (h : PairOk B w p) :
    Calls Tryz.prog 12 #[p.val, o.val] w fun e w' => e = .returned (.bool true) ∧ ∃ p', PStep B w w' p p' := by
  obtain ⟨kind, s, a, b, c, t, on, text⟩ := o
  obtain rfl : kind = 7 := hk
  obtain ⟨x, y, st, r, rv, ov⟩ := p
  have h0 := h.below (laidW_below w ⟨x, y, st, r, rv, ov⟩ ⟨7, s, a, b, c, t, on, text⟩)
  have hsim := h.sim.release (hnd a)
  have SC : Hid (Calls Tryz.prog 30 #[.pointer (some ⟨x, 0, none⟩), .int .u32 (hnd a : Nat)] (laidW w ⟨x, y, st, r, rv, ov⟩ ⟨7, s, a, b, c, t, on, text⟩) fun e w' => e = .returned (.int .i64 ((st.release (hnd a)).2 : Nat)) ∧ CStep (laidW w ⟨x, y, st, r, rv, ov⟩ ⟨7, s, a, b, c, t, on, text⟩) w' x (st.release (hnd a)).1) := srelease_ans x (hnd a) st _ h0.has h.sim.cl
  have RC : Hid (∀ w1, CStep (laidW w ⟨x, y, st, r, rv, ov⟩ ⟨7, s, a, b, c, t, on, text⟩) w1 x (st.release (hnd a)).1 → Calls Tryz.prog 31 #[.pointer (some ⟨y, 0, none⟩), .int .u32 (hnd a : Nat)] w1 fun e w' => e = .returned (.int .i64 ((st.release (hnd a)).2 : Nat)) ∧ RStep B w1 w' y rv ov (r.release (hnd a)).1) := by
    intro w1 hc
    have href := ref_beside h0 hc
    have hB : B ≤ w1.heap.size := by have h1 := lt_of_block href.block; have h2 := href.lo; omega
    have := rrelease_ans B y (hnd a) r rv ov w1 href hB
    rw [← hsim.1] at this
    exact this
  have FIN : Hid (∀ w1 w2, CStep (laidW w ⟨x, y, st, r, rv, ov⟩ ⟨7, s, a, b, c, t, on, text⟩) w1 x (st.release (hnd a)).1 → RStep B w1 w2 y rv ov (r.release (hnd a)).1 → ∃ p', PStep B w w2 ⟨x, y, st, r, rv, ov⟩ p') := by
    intro w1 w2 h1 h2
    obtain ⟨p', hp⟩ := pair_step h0 h1 h2 hsim.2 (release_given _ _)
    exact ⟨p', hp.before (laidW_below _ _ _)⟩
  have KEEP : Hid (∀ w1, CStep (laidW w ⟨x, y, st, r, rv, ov⟩ ⟨7, s, a, b, c, t, on, text⟩) w1 x (st.release (hnd a)).1 → w1.heap[w.heap.size]? = some (.cells (Pr.cells ⟨x, y, st, r, rv, ov⟩) 45 (0, 0)) ∧ w1.heap[w.heap.size + 1]? = some (.cells (SOp.cells ⟨7, s, a, b, c, t, on, text⟩) 33 (0, 0))) := fun w1 hc => laid_keep h hc
  clear h h0 hsim
  generalize (st.release (hnd a)).2 = E1 at *
  generalize (st.release (hnd a)).1 = st' at *
  generalize (r.release (hnd a)).1 = r' at *
  unfold Pr.val SOp.val Pr.cells SOp.cells
  go_enter Tryz.func12, Tryz.ntmps12
  go_wp2_with fail
  try simp only [hnd_eq]
  refine SC.out.mono ?_
  rintro e w1 ⟨rfl, hc1⟩
  have HC1 : Hid _ := hc1
  have k1 := (KEEP.out w1 hc1).1
  have p1 : w1.cell? ⟨w.heap.size, 1, none⟩ = some (.pointer (some ⟨y, 0, none⟩)) := cell_of_block k1 1
  clear hc1 k1
  go_wp2_with fail
  try simp only [hnd_eq]
  refine (RC.out w1 HC1.out).mono ?_
  rintro e w2 ⟨rfl, hr2⟩
  have FP : Hid (∃ p', PStep B w w2 ⟨x, y, st, r, rv, ov⟩ p') := FIN.out w1 w2 HC1.out hr2
  clear hr2 p1
  go_wp2_with fail
  refine (num_calls E1 _).mono ?_
  rintro e w3 ⟨rfl, rfl⟩
  go_wp2_with fail
  refine (num_calls E1 _).mono ?_
  rintro e w3 ⟨rfl, rfl⟩
  go_wp2_with fail
  go_ret
  exact ⟨ret_bool (by simp), FP.out⟩

theorem makes_calls (B : Nat) (p : Pr) (o : SOp) (w : World) (hk : 2 ≤ o.kind ∧ o.kind ≤ 7) (h : PairOk B w p) (hg : p.r.given + 1 < 4294967295) :
    Calls Tryz.prog 12 #[p.val, o.val] w fun e w' => e = .returned (.bool true) ∧ ∃ p', PStep B w w' p p' := by
  have : o.kind = 2 ∨ o.kind = 3 ∨ o.kind = 4 ∨ o.kind = 5 ∨ o.kind = 6 ∨ o.kind = 7 := by omega
  rcases this with e | e | e | e | e | e
  · exact makes_const B p o w e h hg
  · exact makes_var B p o w e h hg
  · exact makes_make B p o w e h hg
  · exact makes_apply B p o w e h hg
  · exact makes_ite B p o w e h hg
  · exact makes_release B p o w e h
theorem asks_calls (B : Nat) (p : Pr) (o : SOp) (w : World) (hk : 8 ≤ o.kind ∧ o.kind ≤ 15) (h : PairOk B w p) :
    Calls Tryz.prog 13 #[p.val, o.val] w fun e w' => e = .returned (.bool true) ∧ ∃ p', PStep B w w' p p' := by
  have : o.kind = 8 ∨ o.kind = 9 ∨ o.kind = 10 ∨ o.kind = 11 ∨ o.kind = 12 ∨ o.kind = 13 ∨ o.kind = 14 ∨ o.kind = 15 := by omega
  rcases this with e | e | e | e | e | e | e | e
  · exact asks_eval B p o w e h
  · exact asks_table B p o w e h
  · exact asks_same B p o w e h
  · exact asks_support B p o w e h
  · exact asks_count B p o w e h
  · exact asks_one B p o w e h
  · exact asks_size B p o w e h
  · exact asks_used B p o w e h
theorem fixes_calls (B : Nat) (p : Pr) (o : SOp) (w : World) (hk : 16 ≤ o.kind ∧ o.kind ≤ 18) (h : PairOk B w p) (hg : p.r.given + 1 < 4294967295) :
    Calls Tryz.prog 14 #[p.val, o.val] w fun e w' => e = .returned (.bool true) ∧ ∃ p', PStep B w w' p p' := by
  have : o.kind = 16 ∨ o.kind = 17 ∨ o.kind = 18 := by omega
  rcases this with e | e | e
  · exact fixes_restrict B p o w e h hg
  · exact fixes_compose B p o w e h hg
  · exact fixes_quantify B p o w e h hg

theorem tmod_nn (a n : Int) (ha : 0 ≤ a) (hn : 0 < n) : 0 ≤ a.tmod n ∧ a.tmod n < n := by
  rw [Int.tmod_eq_emod_of_nonneg ha]
  exact ⟨Int.emod_nonneg _ (by omega), Int.emod_lt_of_pos _ hn⟩
/-- Which of n things a number speaks of. -/
def pkN (c : Int) (n : Nat) : Nat := if c < 0 then (-(c + 1).tmod n).toNat else (c % (n : Int)).toNat
theorem pkN_lt (c : Int) (n : Nat) (hn : 0 < n) : pkN c n < n := by
  unfold pkN
  split
  · have hm := tmod_nn (-(c + 1)) n (by omega) (by omega)
    rw [Int.neg_tmod] at hm; omega
  · have h1 := Int.emod_nonneg c (show (n : Int) ≠ 0 by omega)
    have h2 := Int.emod_lt_of_pos c (show (0 : Int) < n by omega)
    omega
set_option maxHeartbeats 400000 in
theorem lpick_calls (c : Int) (n : Nat) (w : World) (h1 : -9223372036854775808 ≤ c) (h2 : c ≤ 9223372036854775807) (hn : 0 < n) (hn2 : n ≤ 10000000) :
    Calls Tryz.prog 11 #[.int .i64 c, .int .i64 n] w fun e w' => e = .returned (.int .i64 (pkN c n : Nat)) ∧ w' = w := by
  have hnz : ((n : Int) == 0) = false := by simp; omega
  by_cases hc : c < 0
  · have hm := tmod_nn (-(c + 1)) n (by omega) (by omega)
    rw [Int.neg_tmod] at hm
    have HM : Hid (0 ≤ -(c + 1).tmod n ∧ -(c + 1).tmod n < n) := hm
    have HP : Hid (pkN c n = (-(c + 1).tmod n).toNat) := if_pos hc
    clear hm
    go_enter Tryz.func11, Tryz.ntmps11
    go_wp2
    go_ret
    refine ⟨ret_int ?_, rfl⟩
    rw [HP.out]
    have := HM.out; omega
  · have hm : 0 ≤ c % (n : Int) ∧ c % (n : Int) < n := ⟨Int.emod_nonneg _ (by omega), Int.emod_lt_of_pos _ (by omega)⟩
    have HM : Hid (0 ≤ c % (n : Int) ∧ c % (n : Int) < n) := hm
    have HP : Hid (pkN c n = (c % (n : Int)).toNat) := if_neg hc
    clear hm
    go_enter Tryz.func11, Tryz.ntmps11
    go_wp2
    go_ret
    refine ⟨ret_int ?_, rfl⟩
    rw [HP.out]
    have := HM.out; omega
end Go.Proofs.YthoodkbdpnffdabGreatDoor

/-
  Own work: lists that a script's owner has written full of a mark, looked at (walks).
-/
namespace Go.Proofs.YthoodkbdpnffdabGreatDoor
open Go.RowKit
open Cho (U64 Tab full col)

/-- A list that is full of a mark. -/
def RowM (w : World) (v : Value) (m : Int) : Prop := ∃ ao n cap, v = .slice ao n cap ∧ n ≤ 1000 ∧ ∀ i, i < n → ∃ g, ao = some ⟨g, 0, none⟩ ∧ w.cell? ⟨g, i, none⟩ = some (.int .i64 m)
theorem RowM.below {w w1 : World} {v : Value} {m : Int} (h : RowM w v m) (hb : Below w.heap.size w w1) : RowM w1 v m := by
  obtain ⟨ao, n, cap, rfl, hn, hc⟩ := h
  refine ⟨ao, n, cap, rfl, hn, fun i hi => ?_⟩
  obtain ⟨g, e, h1⟩ := hc i hi
  exact ⟨g, e, cell_below h1 hb⟩

set_option maxHeartbeats 400000 in
theorem marked_calls (v : Value) (m : Int) (w : World) (h : RowM w v m) :
    Calls Tryz.prog 17 #[v, .int .i64 m] w fun e w' => e = .returned (.bool true) ∧ w' = w := by
  obtain ⟨ao, n, cap, rfl, hn, hc⟩ := h
  have HC : Hid (∀ i, i < n → ∃ g, ao = some ⟨g, 0, none⟩ ∧ w.cell? ⟨g, i, none⟩ = some (.int .i64 m)) := hc
  clear hc
  go_enter Tryz.func17, Tryz.ntmps17
  go_wp2_with fail
  go_loopw [5] (fun x5 wr => ∃ i : Nat, i ≤ n ∧ x5 = .int .i64 i ∧ wr = w) (fun x5 _ => n - (intOf x5).toNat)
  case atStart => exact ⟨0, Nat.zero_le _, rfl, rfl⟩
  case round =>
    obtain ⟨i, hi, rfl, rfl⟩ := hrel
    by_cases hlt : i < n
    · obtain ⟨g, rfl, h1⟩ := HC.out i hlt
      go_wp2_with fail
      exact ⟨⟨i + 1, hlt, by go_num, trivial⟩, by simp [intOf]; omega⟩
    · go_wp2_with fail
      go_ret
      exact ⟨rfl, rfl⟩

def lsv : List (Value × Int) → List Value
  | [] => []
  | p :: l => p.1 :: .int .i64 p.2 :: lsv l
theorem lsv_get (l : List (Value × Int)) (i : Nat) (hi : i < l.length) : (lsv l)[i * 2]? = some l[i].1 ∧ (lsv l)[i * 2 + 1]? = some (.int .i64 l[i].2) := by
  induction l generalizing i with
  | nil => simp at hi
  | cons p l ih =>
    cases i with
    | zero => exact ⟨rfl, rfl⟩
    | succ i =>
      have := ih i (by simpa using hi)
      rw [show (i + 1) * 2 = i * 2 + 1 + 1 from by omega]
      simpa [lsv] using this
set_option maxRecDepth 100000 in
set_option maxHeartbeats 1000000 in
theorem looks_all (wb B : Nat) (lw : Value) (ls : List (Value × Int)) (w : World) (h1 : w.cell? ⟨wb, 1, none⟩ = some lw) (hr : w.ownsRow B 51 2 lw ls.length (lsv ls)) (hm : ∀ p ∈ ls, RowM w p.1 p.2) (hll : ls.length ≤ 20000000) :
    Calls Tryz.prog 7 #[.pointer (some ⟨wb, 0, none⟩)] w fun e w' => e = .returned (.bool true) ∧ ∃ q, w' = w.drewN q := by
  have HM : Hid (∀ p ∈ ls, RowM w p.1 p.2) := hm
  obtain ⟨ao, cap, rfl⟩ := owns_slice hr
  have HC : Hid (∀ i (hi : i < ls.length), ∃ g, ao = some ⟨g, 0, none⟩ ∧ w.cell? ⟨g, i * 2, none⟩ = some ls[i].1 ∧ w.cell? ⟨g, i * 2 + 1, none⟩ = some (.int .i64 ls[i].2)) := by
    intro i hi
    obtain ⟨g, cap', e, _⟩ := owns_form hr (by omega)
    simp only [Value.slice.injEq] at e
    obtain ⟨rfl, _, _⟩ := e
    obtain ⟨e1, e2⟩ := lsv_get ls i hi
    have r1 := hr.cells (g := g) rfl _ _ e1
    have r2 := hr.cells (g := g) rfl _ _ e2
    rw [Addr.add_mid, Nat.zero_add] at r1 r2
    exact ⟨g, rfl, r1, r2⟩
  have H1 : Hid (w.cell? ⟨wb, 1, none⟩ = some (.slice ao ls.length cap)) := h1
  clear hm hr h1
  go_enter Tryz.func7, Tryz.ntmps7
  go_wp2_with fail
  go_loopw [3] (fun x3 wr => ∃ i q : Nat, i ≤ ls.length ∧ x3 = .int .i64 i ∧ wr = w.drewN q) (fun x3 _ => ls.length - (intOf x3).toNat)
  case atStart => exact ⟨0, 0, Nat.zero_le _, rfl, (World.drewN_zero w).symm⟩
  case round =>
    obtain ⟨i, q, hi, rfl, hq⟩ := hrel
    have HQ : Hid (wr = w.drewN q) := hq
    have BW : Hid (Below w.heap.size w wr) := by rw [hq]; exact below_dr w q
    clear hq
    have h1' := cell_below H1.out BW.out
    by_cases hlt : i < ls.length
    · obtain ⟨g, rfl, c1', c2'⟩ := HC.out i hlt
      have c1 := cell_below c1' BW.out
      have c2 := cell_below c2' BW.out
      clear c1' c2'
      have KM : Hid (∀ q', Calls Tryz.prog 17 #[ls[i].1, .int .i64 ls[i].2] (wr.drewN q') fun e w' => e = .returned (.bool true) ∧ w' = wr.drewN q') := fun q' => marked_calls _ _ _ (((HM.out _ (List.getElem_mem hlt)).below BW.out).below (below_dr _ q'))
      generalize ls[i].1 = lv1 at *
      generalize ls[i].2 = m1 at *
      go_wp2_with fail
      go_quiet ((go_at_call 17; exact Calls.quiet_of_same (KM.out _)))
      go_wp2_with fail
      exact ⟨⟨i + 1, q + nq, hlt, by go_num, by rw [HQ.out, World.drewN_drewN]⟩, by simp [intOf]; omega⟩
    · go_wp2_with fail
      go_ret
      exact ⟨rfl, q, HQ.out⟩
end Go.Proofs.YthoodkbdpnffdabGreatDoor

/-
  Own work: a list that came out is its owner's, who writes it full of a mark and lets it grow (a law on append; a walk).
-/
namespace Go.Proofs.YthoodkbdpnffdabGreatDoor
open Go.RowKit
open Cho (U64 Tab full col)

/-- A list that is full of a mark, in a block of its own kind. -/
structure RowK (b : Nat) (w : World) (v : Value) (m : Int) : Prop where
  ex : ∃ g n cap cur, v = .slice (some ⟨g, 0, none⟩) n cap ∧ n ≤ 1000 ∧ b ≤ g ∧ w.heap[g]? = some (.cells cur 3 (0, 0)) ∧ ∀ i, i < n → cur[i]? = some (.int .i64 m)
theorem RowK.rowM {b : Nat} {w : World} {v : Value} {m : Int} (h : RowK b w v m) : RowM w v m := by
  obtain ⟨g, n, cap, cur, rfl, hn, _, hg, hc⟩ := h.ex
  exact ⟨_, n, cap, rfl, hn, fun i hi => ⟨g, rfl, (cell_of_block hg i).trans (hc i hi)⟩⟩
theorem RowK.mono {b b' : Nat} {w : World} {v : Value} {m : Int} (h : RowK b w v m) (hb : b' ≤ b) : RowK b' w v m := by
  obtain ⟨g, n, cap, cur, e, hn, hl, hg, hc⟩ := h.ex
  exact ⟨g, n, cap, cur, e, hn, by omega, hg, hc⟩
theorem RowK.kept {b : Nat} {w w' : World} {v : Value} {m : Int} (h : RowK b w v m) (hk : ∀ g c, w.heap[g]? = some (.cells c 3 (0, 0)) → b ≤ g → w'.heap[g]? = w.heap[g]?) : RowK b w' v m := by
  obtain ⟨g, n, cap, cur, e, hn, hl, hg, hc⟩ := h.ex
  exact ⟨g, n, cap, cur, e, hn, hl, (hk g _ hg hl).trans hg, hc⟩
/-- A list in block g, its first n numbers the mark; others that grew out of it. -/
structure Mine (b : Nat) (w : World) (g n cap : Nat) (m : Int) (vs : List Value) : Prop where
  ex : ∃ cur, w.heap[g]? = some (.cells cur 3 (0, 0)) ∧ n ≤ cap ∧ cap ≤ maxLen ∧ cur.size = cap ∧ ∀ i, i < n → cur[i]? = some (.int .i64 m)
  lo : b ≤ g
  all : ∀ v ∈ vs, RowK b w v m
theorem Mine.below {b : Nat} {w w' : World} {g n cap : Nat} {m : Int} {vs : List Value} (h : Mine b w g n cap m vs) (hb : Below w.heap.size w w') : Mine b w' g n cap m vs := by
  obtain ⟨cur, hg, hr⟩ := h.ex
  exact ⟨⟨cur, (hb.block g (lt_of_block hg)).trans hg, hr⟩, h.lo, fun v hv => (h.all v hv).kept fun k c hk _ => hb.block k (lt_of_block hk)⟩
theorem Mine.self {b : Nat} {w : World} {g n cap : Nat} {m : Int} {vs : List Value} (h : Mine b w g n cap m vs) (hn : n ≤ 1000) : RowK b w (.slice (some ⟨g, 0, none⟩) n cap) m := by
  obtain ⟨cur, hg, _, _, _, hc⟩ := h.ex
  exact ⟨g, n, cap, cur, rfl, hn, h.lo, hg, hc⟩
/-- As many marks. -/
def marks (k : Nat) (m : Int) : List Value := List.replicate k (.int .i64 m)

/-- Marks appended: in place, or in a new block. -/
theorem run_append_mark {P : Program} (w : World) (t ty : TypeId) (i : TypeInfo) (z : Value) (ht : P.underlying t = some (.slice 3)) (hi : P.info? 3 = some i) (hz : i.zero = some z)
    (hsize : i.size = 1) (hby : i.bytes = 8) (b g n cap : Nat) (m : Int) (vs : List Value) (hM : Mine b w g n cap m vs)
    (a : Addr) (k c : Nat) (hnews : ∀ j u, (marks k m)[j]? = some u → w.cell? (a.add j) = some u) (hk : n + k ≤ 1000) (hb : b ≤ w.heap.size) :
    ∃ v' w', (Builtin.append_ #[t, t] ty #[.slice (some ⟨g, 0, none⟩) n cap, .slice (some a) k c]).run P w = .ok v' w' ∧ Mine b w' g n cap m (vs ++ [v']) ∧ w.grownBy w' (some g) := by
  obtain ⟨cur, hg, hnc, hcm, hcs, hc⟩ := hM.ex
  have hl : (marks k m).length = k * i.size := by simp [marks, hsize]
  have h1 : ∀ u ∈ marks k m, u.oneCell' = true := by
    intro u hu
    rw [(List.mem_replicate.1 hu).2]; rfl
  by_cases hroom : n + k ≤ cap
  · have hr := run_append_room (P := P) w t ty 3 i ht hi g n cap cur hg a k c (marks k m) hl hnews h1 hroom (by rw [hl, hsize, hcs]; omega)
    refine ⟨_, _, hr, ?_, ⟨rfl, rfl, rfl, by simp, fun j _ hj => setRow_other w g j _ (fun e => hj (by rw [e]))⟩⟩
    rw [hsize, Nat.mul_one, hl, hsize, Nat.mul_one]
    have hnew := setRow_heap w g cur (cur.toList.take n ++ marks k m ++ cur.toList.drop (n + k)).toArray 3 (0, 0) hg
    have hat : ∀ j, cur[j]? = some (.int .i64 m) ∨ (n ≤ j ∧ j < n + k) → (cur.toList.take n ++ marks k m ++ cur.toList.drop (n + k)).toArray[j]? = some (.int .i64 m) := by
      intro j hj
      have hcl : cur.toList.length = cap := by simpa using hcs
      rw [List.getElem?_toArray, List.append_assoc, List.getElem?_append, List.length_take, hcl, Nat.min_eq_left hnc]
      split
      · rename_i hjn
        rw [List.getElem?_take, if_pos hjn]
        have := hc j hjn
        simpa using this
      · rename_i hjn
        rw [List.getElem?_append]
        simp only [marks, List.length_replicate]
        split
        · rename_i hj2
          rw [List.getElem?_replicate, if_pos hj2]
        · rename_i hj2
          rw [List.getElem?_drop]
          rw [show n + k + (j - n - k) = j from by omega]
          rcases hj with hj | hj
          · simpa using hj
          · omega
    refine ⟨⟨_, hnew, hnc, hcm, ?_, fun j hj => hat j (.inl (hc j hj))⟩, hM.lo, ?_⟩
    · simp [marks]; omega
    · intro v hv
      rcases List.mem_append.1 hv with hv | hv
      · obtain ⟨g2, n2, cap2, cur2, e, hn2, hl2, hg2, hc2⟩ := (hM.all v hv).ex
        by_cases eg : g2 = g
        · subst eg
          rw [hg] at hg2
          simp at hg2
          subst hg2
          exact ⟨g2, n2, cap2, _, e, hn2, hl2, hnew, fun j hj => hat j (.inl (hc2 j hj))⟩
        · exact ⟨g2, n2, cap2, cur2, e, hn2, hl2, (setRow_other w g g2 _ eg).trans hg2, hc2⟩
      · simp at hv; subst hv
        exact ⟨g, n + k, cap, _, rfl, hk, hM.lo, hnew, fun j hj => hat j (if h : j < n then .inl (hc j h) else .inr ⟨by omega, hj⟩)⟩
  · have hlo : (marks n m).length = n * i.size := by simp [marks, hsize]
    have holds : ∀ j u, (marks n m)[j]? = some u → w.cell? ((⟨g, 0, none⟩ : Addr).add j) = some u := by
      intro j u hu
      rw [marks, List.getElem?_replicate] at hu
      split at hu
      · rename_i hj
        rw [Addr.add_mid, Nat.zero_add, cell_of_block hg j, hc j hj]; exact hu
      · cases hu
    have hr := run_append_grow (P := P) w t ty 3 i z ht hi hz ⟨g, 0, none⟩ n cap (marks n m) hlo holds a k c (marks k m) hl hnews (by omega) (by omega) (growslice_fits (by omega) (by rw [hby]; omega))
    refine ⟨_, _, hr, ?_, ⟨rfl, rfl, rfl, by simp, fun j hj _ => heap_alloc_old w.drew _ hj⟩⟩
    have hold : ∀ j c', w.heap[j]? = some c' → (w.drew.alloc (.cells ((marks n m).toArray ++ (marks k m).toArray ++ Builtin.zeroCells z.cells (grownCap w (n + k) cap 3 - (n + k))) 3)).heap[j]? = w.heap[j]? := fun j c' hj => heap_alloc_old w.drew _ (lt_of_block hj)
    refine ⟨⟨cur, (hold g _ hg).trans hg, hnc, hcm, hcs, hc⟩, hM.lo, ?_⟩
    intro v hv
    rcases List.mem_append.1 hv with hv | hv
    · exact (hM.all v hv).kept fun j c' hj _ => hold j _ hj
    · simp at hv; subst hv
      refine ⟨w.heap.size, n + k, _, _, rfl, hk, hb, heap_alloc_new w.drew _, fun j hj => ?_⟩
      have e : (marks n m).toArray ++ (marks k m).toArray = (marks (n + k) m).toArray := by simp [marks]
      rw [e, Array.getElem?_append_left (by simp [marks]; omega), List.getElem?_toArray, marks, List.getElem?_replicate, if_pos (by omega)]

theorem wpList_append_mark {P : Program} {w : World} {ops : Array Oper} {rest : List Oper} {o : Oper} {a : Act} {Q : Exit → Act → World → Prop} (hgd : o.guard = none) (s x : Operand) (t : TypeId)
    (ho : o.op = .call { callee := .builtin .append, args := #[s, x], argTypes := #[t, t] })
    (i : TypeInfo) (z : Value) (ht : P.underlying t = some (.slice 3)) (hi : P.info? 3 = some i) (hz : i.zero = some z)
    (hsize : i.size = 1) (hby : i.bytes = 8)
    (b g n cap : Nat) (m : Int) (vs : List Value) (hs : a.eval s = .slice (some ⟨g, 0, none⟩) n cap) (hM : Mine b w g n cap m vs)
    (ad : Addr) (k c : Nat) (hx : a.eval x = .slice (some ad) k c) (hnews : ∀ j u, (marks k m)[j]? = some u → w.cell? (ad.add j) = some u) (hk : n + k ≤ 1000) (hb : b ≤ w.heap.size)
    (h : ∀ v' w', Mine b w' g n cap m (vs ++ [v']) → w.grownBy w' (some g) → wpList P ops Q rest (a.put o.dst v') w') :
    wpList P ops Q (o :: rest) a w := by
  refine wpList_plain hgd fun K hK => ?_
  obtain ⟨v', w', hr, h2, h3⟩ := run_append_mark (P := P) w t o.type i z ht hi hz hsize hby b g n cap m vs hM ad k c hnews hk hb
  unfold Oper.wp execOp
  simp only [ho, resolve, invoke, builtin, Sem.run_bind, Sem.run_pure, Result.andThen_ok, List.map_toArray, List.map_cons, List.map_nil, hs, hx, hr]
  exact hK _ _ (h v' w' h2 h3)
end Go.Proofs.YthoodkbdpnffdabGreatDoor

/-
  Own work: all stores of a script side by side: what one step on one of them leaves of the others.
-/
namespace Go.Proofs.YthoodkbdpnffdabGreatDoor
open Go.RowKit
open Cho (U64 Tab full col Nd Red)

def prv : List Pr → List Value
  | [] => []
  | p :: l => .pointer (some ⟨p.x, 0, none⟩) :: .pointer (some ⟨p.y, 0, none⟩) :: prv l
theorem prv_len (l : List Pr) : (prv l).length = l.length * 2 := by
  induction l with
  | nil => rfl
  | cons p l ih => simp only [prv, List.length_cons, ih]; omega
theorem prv_snoc (l : List Pr) (p : Pr) : prv l ++ [.pointer (some ⟨p.x, 0, none⟩), .pointer (some ⟨p.y, 0, none⟩)] = prv (l ++ [p]) := by
  induction l with
  | nil => rfl
  | cons q l ih => simp only [prv, List.cons_append, ih]
theorem prv_get (l : List Pr) (i : Nat) (hi : i < l.length) : (prv l)[i * 2]? = some (.pointer (some ⟨l[i].x, 0, none⟩)) ∧ (prv l)[i * 2 + 1]? = some (.pointer (some ⟨l[i].y, 0, none⟩)) := by
  induction l generalizing i with
  | nil => simp at hi
  | cons p l ih =>
    cases i with
    | zero => exact ⟨rfl, rfl⟩
    | succ i =>
      have := ih i (by simpa using hi)
      rw [show (i + 1) * 2 = i * 2 + 1 + 1 from by omega]
      simpa [prv] using this
theorem prv_set (l : List Pr) (i : Nat) (p : Pr) (hi : i < l.length) (hx : p.x = l[i].x) (hy : p.y = l[i].y) : prv (l.set i p) = prv l := by
  induction l generalizing i with
  | nil => rfl
  | cons q l ih =>
    cases i with
    | zero => simp only [List.set_cons_zero, prv]; simp at hx hy; rw [hx, hy]
    | succ i => simp only [List.set_cons_succ, prv]; rw [ih i (by simpa using hi) (by simpa using hx) (by simpa using hy)]

structure Apart (p q : Pr) : Prop where
  x : p.x ≠ q.x
  y : p.y ≠ q.y
  rv : ∀ g, p.rv.ownBlock = some g → q.rv.ownBlock ≠ some g
theorem Apart.symm {p q : Pr} (h : Apart p q) : Apart q p := ⟨Ne.symm h.x, Ne.symm h.y, fun g h1 h2 => h.rv g h2 h1⟩
/-- All that a script has made since the world w0. -/
structure Scr (w0 w : World) (wb : Nat) (sv lw : Value) (ps : List Pr) (ls : List (Value × Int)) : Prop where
  blk : w.heap[wb]? = some (.cells #[sv, lw] 29 (0, 0))
  lrow : w.ownsRow w0.heap.size 51 2 lw ls.length (lsv ls)
  lok : ∀ p ∈ ls, RowK w0.heap.size w p.1 p.2
  row : w.ownsRow w0.heap.size 45 2 sv ps.length (prv ps)
  ok : ∀ i (h : i < ps.length), PairOk w0.heap.size w ps[i]
  apart : ∀ i j (hi : i < ps.length) (hj : j < ps.length), i ≠ j → Apart ps[i] ps[j]
  lo : w0.heap.size ≤ wb
  bel : Below w0.heap.size w0 w

theorem own_kind {B : Nat} {w : World} {p : Pr} (h : PairOk B w p) {k : Nat} (hk : p.own k) : ∃ c T, w.heap[k]? = some (.cells c T (0, 0)) ∧ (T = 62 ∨ T = 65 ∨ T = 115) ∧ B ≤ k := by
  rcases hk with rfl | rfl | hk
  · obtain ⟨c, hc⟩ := h.blk
    exact ⟨c, _, hc, .inl rfl, h.lo⟩
  · exact ⟨_, _, h.ref.block, .inr (.inl rfl), h.ref.lo⟩
  · obtain ⟨c, hc⟩ := owns_kind h.ref.row hk
    exact ⟨c, _, hc, .inr (.inr rfl), (h.ref.row.lt k hk).1⟩
theorem own_other {B : Nat} {w : World} {p : Pr} (h : PairOk B w p) {k : Nat} {c : Array Value} {T : TypeId} (hb : w.heap[k]? = some (.cells c T (0, 0))) (hT : T ≠ 62 ∧ T ≠ 65 ∧ T ≠ 115) : ¬ p.own k := by
  intro hk
  obtain ⟨c', T', hb', hT', _⟩ := own_kind h hk
  rcases hT' with rfl | rfl | rfl
  · exact kind_ne hb hb' hT.1 rfl
  · exact kind_ne hb hb' hT.2.1 rfl
  · exact kind_ne hb hb' hT.2.2 rfl
/-- Another pair stays as it is. -/
theorem pair_other {B : Nat} {w w' : World} {p q : Pr} (h : PairOk B w p) (hq : PairOk B w q) (ha : Apart p q) (hc : Ch p.own w w') : PairOk B w' q := by
  obtain ⟨cx, hx⟩ := hq.blk
  refine ⟨hq.has.ch hc (fun h0 => ?_) (fun hk => ?_) (fun k c T hk hT => ?_), hq.ref.ch hc (fun hk => ?_) (fun g hg hk => ?_) (fun g hg => ?_), hq.sim, hq.lo, hq.pos⟩
  · obtain ⟨_, _, _, _, hB⟩ := own_kind h h0
    have := h.pos; omega
  · rcases hk with e | e | e
    · exact ha.x e.symm
    · exact kind_ne hx h.ref.block (by decide) e
    · obtain ⟨c, hc'⟩ := owns_kind h.ref.row e
      exact kind_ne hx hc' (by decide) rfl
  · rcases hT with rfl | rfl <;> exact own_other h hk (by decide)
  · rcases hk with e | e | e
    · obtain ⟨c, hc'⟩ := h.blk
      exact kind_ne hq.ref.block hc' (by decide) e
    · exact ha.y e.symm
    · obtain ⟨c, hc'⟩ := owns_kind h.ref.row e
      exact kind_ne hq.ref.block hc' (by decide) rfl
  · obtain ⟨cg, hcg⟩ := owns_kind hq.ref.row hg
    rcases hk with e | e | e
    · obtain ⟨c, hc'⟩ := h.blk
      exact kind_ne hcg hc' (by decide) e
    · exact kind_ne hcg h.ref.block (by decide) e
    · exact ha.rv g e hg
  · obtain ⟨cg, hcg⟩ := owns_kind hq.ref.ords hg
    exact own_other h hcg (by decide)
/-- A STEP ON ONE PAIR. -/
theorem scr_step {w0 w w' : World} {wb : Nat} {sv lw : Value} {ps : List Pr} {ls : List (Value × Int)} (h : Scr w0 w wb sv lw ps ls) {i : Nat} (hi : i < ps.length) {p' : Pr} (hs : PStep w0.heap.size w w' ps[i] p') : Scr w0 w' wb sv lw (ps.set i p') ls := by
  have hp := h.ok i hi
  have hlen : (ps.set i p').length = ps.length := by simp
  refine ⟨?_, ?_, ?_, ?_, ?_, ?_, h.lo, ?_⟩
  · exact (hs.ch.block wb (lt_of_block h.blk) (own_other hp h.blk (by decide))).trans h.blk
  · refine owns_kept h.lrow fun g hg => ?_
    obtain ⟨c, hc⟩ := owns_kind h.lrow hg
    exact hs.ch.block g (lt_of_block hc) (own_other hp hc (by decide))
  · exact fun q hq => (h.lok q hq).kept fun g c hc _ => hs.ch.block g (lt_of_block hc) (own_other hp hc (by decide))
  · rw [hlen, prv_set ps i p' hi hs.x hs.y]
    refine owns_kept h.row fun g hg => ?_
    obtain ⟨c, hc⟩ := owns_kind h.row hg
    exact hs.ch.block g (lt_of_block hc) (own_other hp hc (by decide))
  · intro j hj
    rw [hlen] at hj
    by_cases e : i = j
    · subst e; simpa using hs.ok
    · rw [List.getElem_set_ne e]
      exact pair_other hp (h.ok j hj) (h.apart i j hi hj e) hs.ch
  · have key : ∀ j (hj : j < ps.length), i ≠ j → Apart p' ps[j] := by
      intro j hj e
      have ha := h.apart i j hi hj e
      refine ⟨by rw [hs.x]; exact ha.x, by rw [hs.y]; exact ha.y, fun g h1 h2 => ?_⟩
      rcases hs.rv g h1 with e1 | e1
      · exact ha.rv g e1 h2
      · have := ((h.ok j hj).ref.row.lt g h2).2; omega
    intro j k hj hk hjk
    rw [hlen] at hj hk
    rw [List.getElem_set, List.getElem_set]
    by_cases e1 : i = j
    · rw [if_pos e1]
      by_cases e2 : i = k
      · omega
      · rw [if_neg e2]; exact key k hk e2
    · rw [if_neg e1]
      by_cases e2 : i = k
      · rw [if_pos e2]; exact (key j hj e1).symm
      · rw [if_neg e2]; exact h.apart j k hj hk hjk
  · refine ⟨hs.ch.os.trans h.bel.os, hs.ch.tape.trans h.bel.tape, hs.ch.output.trans h.bel.output, Nat.le_trans h.bel.size hs.ch.size, fun k hk => ?_⟩
    refine (hs.ch.block k (Nat.lt_of_lt_of_le hk h.bel.size) (fun ho => ?_)).trans (h.bel.block k hk)
    obtain ⟨_, _, _, _, hB⟩ := own_kind hp ho
    omega
theorem Scr.below {w0 w w' : World} {wb : Nat} {sv lw : Value} {ps : List Pr} {ls : List (Value × Int)} (h : Scr w0 w wb sv lw ps ls) (hb : Below w.heap.size w w') : Scr w0 w' wb sv lw ps ls :=
  ⟨(hb.block wb (lt_of_block h.blk)).trans h.blk, owns_kept h.lrow fun g hg => hb.block g (h.lrow.lt g hg).2, fun p hp => (h.lok p hp).kept fun g _ hc _ => hb.block g (lt_of_block hc), owns_kept h.row fun g hg => hb.block g (h.row.lt g hg).2, fun i hi => (h.ok i hi).below hb, h.apart, h.lo, below_trans h.bel hb⟩
theorem owns_mono {w : World} {B B' : Nat} {e : TypeId} {sz : Nat} {v : Value} {n : Nat} {xs : List Value} (h : w.ownsRow B e sz v n xs) (hB : B' ≤ B) : w.ownsRow B' e sz v n xs := by
  obtain ⟨h1, h2⟩ := h
  refine ⟨h1, h2.imp id ?_⟩
  rintro ⟨g, cap', cur, e1, e2, e3⟩
  exact ⟨g, cap', cur, e1, by omega, e3⟩
theorem RefAt.mono {B B' : Nat} {w : World} {y : Nat} {r : RSt} {rv ov : Value} (h : RefAt B w y r rv ov) (hB : B' ≤ B) : RefAt B' w y r rv ov :=
  ⟨h.block, owns_mono h.row hB, owns_mono h.ords hB, h.ok, Nat.le_trans hB h.lo⟩
/-- What lies beside the row of pairs stays, where the row grows and the block of the script's world is written. -/
theorem scr_kept {w0 w w' : World} {wb : Nat} {sv lw : Value} {ps : List Pr} {ls : List (Value × Int)} (h : Scr w0 w wb sv lw ps ls) {q : Pr} (hq : PairOk w0.heap.size w q) (hc : Ch (fun k => k = wb ∨ sv.ownBlock = some k) w w') : PairOk w0.heap.size w' q := by
  have hF : ∀ k c T, w.heap[k]? = some (.cells c T (0, 0)) → T ≠ 29 ∧ T ≠ 45 → ¬ (k = wb ∨ sv.ownBlock = some k) := by
    rintro k c T hk ⟨h1, h2⟩ (e | e)
    · exact kind_ne hk h.blk h1 e
    · obtain ⟨c', hc'⟩ := owns_kind h.row e
      exact kind_ne hk hc' h2 rfl
  obtain ⟨cx, hx⟩ := hq.blk
  have h0 : ¬ (0 = wb ∨ sv.ownBlock = some 0) := by
    have hp := hq.pos
    rintro (e | e)
    · have := h.lo; omega
    · have := (h.row.lt 0 e).1; omega
  refine ⟨hq.has.ch hc h0 (hF _ _ _ hx (by decide)) (fun k c T hk hT => hF k c T hk (by rcases hT with rfl | rfl <;> decide)), hq.ref.ch hc (hF _ _ _ hq.ref.block (by decide)) (fun g hg => ?_) (fun g hg => ?_), hq.sim, hq.lo, hq.pos⟩
  · obtain ⟨c, hc'⟩ := owns_kind hq.ref.row hg
    exact hF g c _ hc' (by decide)
  · obtain ⟨c, hc'⟩ := owns_kind hq.ref.ords hg
    exact hF g c _ hc' (by decide)
/-- A STEP ON ONE PAIR BY WHICH LISTS COME OUT. -/
theorem scr_lists {w0 w w' : World} {wb : Nat} {sv lw lw' : Value} {ps : List Pr} {ls ms : List (Value × Int)} (h : Scr w0 w wb sv lw ps ls) {i : Nat} (hi : i < ps.length) {p' : Pr}
    (hok : PairOk w0.heap.size w' p') (hx : p'.x = ps[i].x) (hy : p'.y = ps[i].y) (hrv : ∀ g, p'.rv.ownBlock = some g → ps[i].rv.ownBlock = some g ∨ w.heap.size ≤ g)
    (hch : Ch (fun k => ps[i].own k ∨ k = wb ∨ lw.ownBlock = some k) w w')
    (hblk : w'.heap[wb]? = some (.cells #[sv, lw'] 29 (0, 0)))
    (hl : w'.ownsRow w0.heap.size 51 2 lw' (ls ++ ms).length (lsv (ls ++ ms))) (hm : ∀ p ∈ ms, RowK w0.heap.size w' p.1 p.2) :
    Scr w0 w' wb sv lw' (ps.set i p') (ls ++ ms) := by
  have hp := h.ok i hi
  have hlen : (ps.set i p').length = ps.length := by simp
  have hF : ∀ k c T, w.heap[k]? = some (.cells c T (0, 0)) → T ≠ 29 ∧ T ≠ 51 → ¬ (k = wb ∨ lw.ownBlock = some k) := by
    rintro k c T hk ⟨h1, h2⟩ (e | e)
    · exact kind_ne hk h.blk h1 e
    · obtain ⟨c', hc'⟩ := owns_kind h.lrow e
      exact kind_ne hk hc' h2 rfl
  have hkeep : ∀ k c T, w.heap[k]? = some (.cells c T (0, 0)) → T ≠ 29 ∧ T ≠ 51 → ¬ ps[i].own k → w'.heap[k]? = w.heap[k]? := by
    intro k c T hk hT ho
    exact hch.block k (lt_of_block hk) (fun e => e.elim ho (hF k c T hk hT))
  refine ⟨hblk, hl, ?_, ?_, ?_, ?_, h.lo, ?_⟩
  · intro q hq
    rcases List.mem_append.1 hq with hq | hq
    · exact (h.lok q hq).kept fun g c hc _ => hkeep g c _ hc (by decide) (own_other hp hc (by decide))
    · exact hm q hq
  · rw [hlen, prv_set ps i p' hi hx hy]
    refine owns_kept h.row fun g hg => ?_
    obtain ⟨c, hc⟩ := owns_kind h.row hg
    exact hkeep g c _ hc (by decide) (own_other hp hc (by decide))
  · intro j hj
    rw [hlen] at hj
    by_cases e : i = j
    · subst e; simpa using hok
    · rw [List.getElem_set_ne e]
      have hq := h.ok j hj
      obtain ⟨cx, hqx⟩ := hq.blk
      have ha := h.apart i j hi hj e
      have hno : ∀ k c T, w.heap[k]? = some (.cells c T (0, 0)) → T ≠ 29 ∧ T ≠ 51 → ¬ ps[i].own k → ¬ (ps[i].own k ∨ k = wb ∨ lw.ownBlock = some k) := fun k c T hk hT ho e => e.elim ho (hF k c T hk hT)
      refine ⟨hq.has.ch hch ?_ (hno _ _ _ hqx (by decide) ?_) (fun k c T hk hT => hno k c T hk (by rcases hT with rfl | rfl <;> decide) ?_), hq.ref.ch hch (hno _ _ _ hq.ref.block (by decide) ?_) (fun g hg => ?_) (fun g hg => ?_), hq.sim, hq.lo, hq.pos⟩
      · have hpos := hp.pos
        rintro (h0 | h0 | h0)
        · obtain ⟨_, _, _, _, hB⟩ := own_kind hp h0; omega
        · have := h.lo; omega
        · have := (h.lrow.lt 0 h0).1; omega
      · rintro (e' | e' | e')
        · exact ha.x e'.symm
        · exact kind_ne hqx hp.ref.block (by decide) e'
        · obtain ⟨c, hc'⟩ := owns_kind hp.ref.row e'
          exact kind_ne hqx hc' (by decide) rfl
      · rcases hT with rfl | rfl <;> exact own_other hp hk (by decide)
      · rintro (e' | e' | e')
        · obtain ⟨c, hc'⟩ := hp.blk
          exact kind_ne hq.ref.block hc' (by decide) e'
        · exact ha.y e'.symm
        · obtain ⟨c, hc'⟩ := owns_kind hp.ref.row e'
          exact kind_ne hq.ref.block hc' (by decide) rfl
      · obtain ⟨cg, hcg⟩ := owns_kind hq.ref.row hg
        refine hno g cg _ hcg (by decide) ?_
        rintro (e' | e' | e')
        · obtain ⟨c, hc'⟩ := hp.blk
          exact kind_ne hcg hc' (by decide) e'
        · exact kind_ne hcg hp.ref.block (by decide) e'
        · exact ha.rv g e' hg
      · obtain ⟨cg, hcg⟩ := owns_kind hq.ref.ords hg
        exact hno g cg _ hcg (by decide) (own_other hp hcg (by decide))
  · have key : ∀ j (hj : j < ps.length), i ≠ j → Apart p' ps[j] := by
      intro j hj e
      have ha := h.apart i j hi hj e
      refine ⟨by rw [hx]; exact ha.x, by rw [hy]; exact ha.y, fun g h1 h2 => ?_⟩
      rcases hrv g h1 with e1 | e1
      · exact ha.rv g e1 h2
      · have := ((h.ok j hj).ref.row.lt g h2).2; omega
    intro j k hj hk hjk
    rw [hlen] at hj hk
    rw [List.getElem_set, List.getElem_set]
    by_cases e1 : i = j
    · rw [if_pos e1]
      by_cases e2 : i = k
      · omega
      · rw [if_neg e2]; exact key k hk e2
    · rw [if_neg e1]
      by_cases e2 : i = k
      · rw [if_pos e2]; exact (key j hj e1).symm
      · rw [if_neg e2]; exact h.apart j k hj hk hjk
  · refine ⟨hch.os.trans h.bel.os, hch.tape.trans h.bel.tape, hch.output.trans h.bel.output, Nat.le_trans h.bel.size hch.size, fun k hk => ?_⟩
    refine (hch.block k (Nat.lt_of_lt_of_le hk h.bel.size) ?_).trans (h.bel.block k hk)
    rintro (ho | e | e)
    · obtain ⟨_, _, _, _, hB⟩ := own_kind hp ho; omega
    · have := h.lo; omega
    · have := (h.lrow.lt k e).1; omega
end Go.Proofs.YthoodkbdpnffdabGreatDoor
