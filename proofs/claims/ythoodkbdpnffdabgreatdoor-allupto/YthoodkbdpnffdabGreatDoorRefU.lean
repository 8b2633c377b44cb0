/-
  Own work: the document's answer: an order in which one variable stands at another level (a walk).
-/
import Derived.Test.YthoodkbdpnffdabGreatDoorRefT
import Derived.Maps.AppendAt
namespace Go.Proofs.YthoodkbdpnffdabGreatDoor
open Go.RowKit
open Cho (U64 Tab full col)

/-- The first i of a list without the one at f. -/
def restTo (l : List Nat) (f : Nat) : Nat → List Nat
  | 0 => []
  | i + 1 => if i = f then restTo l f i else restTo l f i ++ [l.getD i 0]
theorem restTo_len (l : List Nat) (f : Nat) (i : Nat) : (restTo l f i).length = if f < i then i - 1 else i := by
  induction i with
  | zero => rfl
  | succ i ih =>
    simp only [restTo]
    by_cases e : i = f
    · subst e; rw [if_pos rfl, ih, if_neg (by omega), if_pos (by omega)]; rfl
    · rw [if_neg e, List.length_append, ih]
      by_cases h : f < i
      · rw [if_pos h, if_pos (by omega)]; simp; omega
      · rw [if_neg h, if_neg (by omega)]; simp
def rest (l : List Nat) (f : Nat) : List Nat := restTo l f l.length
theorem rest_len (l : List Nat) (f : Nat) (hf : f < l.length) : (rest l f).length = l.length - 1 := by unfold rest; rw [restTo_len, if_pos hf]
theorem restTo_mem {l : List Nat} {f x : Nat} : ∀ i, i ≤ l.length → x ∈ restTo l f i → x ∈ l := by
  intro i
  induction i with
  | zero => intro _ h; simp [restTo] at h
  | succ i ih =>
    intro hi h
    simp only [restTo] at h
    split at h
    · exact ih (by omega) h
    · rcases List.mem_append.1 h with h | h
      · exact ih (by omega) h
      · simp at h
        rw [h, show l[i]?.getD 0 = l[i] from by simp [show i < l.length from by omega]]
        exact List.getElem_mem _
/-- The one at f stands at t, the others in their order. -/
def movedL (l : List Nat) (f t : Nat) : List Nat := ((rest l f).take t ++ [l.getD f 0]) ++ (rest l f).drop t
theorem movedL_len (l : List Nat) (f t : Nat) (hf : f < l.length) : (movedL l f t).length = l.length := by
  unfold movedL
  simp only [List.length_append, List.length_take, List.length_drop, List.length_cons, List.length_nil, rest_len l f hf]
  omega
theorem movedL_mem {l : List Nat} {f t x : Nat} (hf : f < l.length) (h : x ∈ movedL l f t) : x ∈ l := by
  unfold movedL at h
  simp only [List.mem_append, List.mem_cons, List.not_mem_nil, or_false] at h
  rcases h with (h | h) | h
  · exact restTo_mem _ (Nat.le_refl _) (List.mem_of_mem_take h)
  · rw [h, show l.getD f 0 = l[f] from by simp [List.getD, hf]]; exact List.getElem_mem _
  · exact restTo_mem _ (Nat.le_refl _) (List.mem_of_mem_drop h)

theorem loci_append {w wr w1 : World} {v v' : Value} {l m : List Nat} (h : LocI w wr v l) (hr : w1.ownsRow w.heap.size 3 1 v' (l.length + m.length) (lv l ++ lv m)) (hg : wr.grownBy w1 v.ownBlock) : LocI w w1 v' (l ++ m) := by
  refine ⟨h.bel.grown hg h.bel.size (fun q hq => (h.row.lt q hq).1), ?_⟩
  have e : lv l ++ lv m = lv (l ++ m) := by simp [lv]
  rw [e] at hr
  simpa using hr
theorem LocI.below {w wr w1 : World} {v : Value} {l : List Nat} (h : LocI w wr v l) (hb : Below wr.heap.size wr w1) : LocI w w1 v l :=
  ⟨h.bel.trans (hb.mono h.bel.size), owns_kept h.row fun g hg => hb.block g (h.row.lt g hg).2⟩

/-- Two rows of numbers side by side: one grows, the other stays. -/
structure TwoI (w wr : World) (v : Value) (O : List Nat) (g n cap : Nat) (L : List Nat) : Prop where
  loc : LocI w wr v O
  row : LocI w wr (.slice (some ⟨g, 0, none⟩) n cap) L
  apart : ∀ b, v.ownBlock = some b → b ≠ g
theorem twoi_append {w wr w1 : World} {v v' : Value} {O L m : List Nat} {g n cap : Nat} (h : TwoI w wr v O g n cap L) (hr : w1.ownsRow w.heap.size 3 1 v' (O.length + m.length) (lv O ++ lv m)) (hg : wr.grownBy w1 v.ownBlock) (hat : v'.ownBlock = v.ownBlock ∨ v'.ownBlock = some wr.heap.size) :
    TwoI w w1 v' (O ++ m) g n cap L := by
  have hgl := (h.row.row.lt g rfl).2
  refine ⟨loci_append h.loc hr hg, ⟨h.loc.bel.grown hg h.loc.bel.size (fun q hq => (h.loc.row.lt q hq).1), owns_kept h.row.row fun b hb => ?_⟩, fun b hb => ?_⟩
  · obtain rfl : g = b := by simpa [Value.ownBlock] using hb
    exact hg.block g hgl (fun e => h.apart g e.symm rfl)
  · rcases hat with e | e
    · exact h.apart b (by rw [← e]; exact hb)
    · rw [e] at hb; simp at hb; omega
theorem TwoI.below {w wr w1 : World} {v : Value} {O L : List Nat} {g n cap : Nat} (h : TwoI w wr v O g n cap L) (hb : Below wr.heap.size wr w1) : TwoI w w1 v O g n cap L := ⟨h.loc.below hb, h.row.below hb, h.apart⟩
/-- A part of a row of numbers, to be appended. -/
theorem loci_part {w wr : World} {g n cap : Nat} {L : List Nat} (h : LocI w wr (.slice (some ⟨g, 0, none⟩) n cap) L) (a b : Nat) : ∀ j u, (lv ((L.drop a).take b))[j]? = some u → wr.cell? ((⟨g, a, none⟩ : Addr).add j) = some u := by
  intro j u hu
  have hj : j < ((L.drop a).take b).length := by
    apply Classical.byContradiction
    intro hn
    rw [List.getElem?_eq_none (by simp only [lv, List.length_map]; omega)] at hu; cases hu
  have hj2 : a + j < L.length := by simp at hj; omega
  rw [Addr.add_mid, loci_cell h hj2]
  simp only [lv, List.getElem?_map] at hu
  rw [List.getElem?_eq_getElem hj] at hu
  simp at hu
  rw [← hu]

theorem mv_le {w w1 : World} {o : Obj} (h : Below w.heap.size w w1) : w.heap.size ≤ (w1.alloc o).heap.size := by have := h.size; simp; omega
theorem mv1 {w wr w1 : World} {v1 : Value} {R : List Nat} {g n cap t : Nat} (h : TwoI w wr (.slice none 0 0) [] g n cap R) (htl : (R.take t).length = t) (hr : w1.ownsRow w.heap.size 3 1 v1 (0 + t) ([] ++ lv (R.take t))) (hg : wr.grownBy w1 (Value.ownBlock (.slice none 0 0))) (hat : v1.ownBlock = Value.ownBlock (.slice none 0 0) ∨ v1.ownBlock = some wr.heap.size) :
    ∃ a c, v1 = .slice a t c ∧ Hid (TwoI w w1 (.slice a t c) (R.take t) g n cap R ∧ w1.ownsRow w.heap.size 3 1 (.slice a t c) t (lv (R.take t))) := by
  have h1 := twoi_append (m := R.take t) h (by rw [htl]; exact hr) hg hat
  rw [List.nil_append] at h1
  rw [Nat.zero_add, List.nil_append] at hr
  obtain ⟨a, c, rfl⟩ := owns_slice hr
  exact ⟨a, c, rfl, h1, hr⟩
theorem mv2 {w wr w1 : World} {v1 v2 : Value} {R : List Nat} {g n cap t x : Nat} (h : TwoI w wr v1 (R.take t) g n cap R) (htl : (R.take t).length = t) (hr : w1.ownsRow w.heap.size 3 1 v2 (t + 1) (lv (R.take t) ++ [.int .i64 (x : Nat)])) (hg : wr.grownBy w1 v1.ownBlock) (hat : v2.ownBlock = v1.ownBlock ∨ v2.ownBlock = some wr.heap.size) :
    ∃ a c, v2 = .slice a (t + 1) c ∧ Hid (TwoI w w1 (.slice a (t + 1) c) (R.take t ++ [x]) g n cap R ∧ w1.ownsRow w.heap.size 3 1 (.slice a (t + 1) c) (t + 1) (lv (R.take t ++ [x]))) := by
  have h1 := twoi_append (m := [x]) h (by rw [htl]; exact hr) hg hat
  have e : lv (R.take t) ++ [.int .i64 (x : Nat)] = lv (R.take t ++ [x]) := by simp [lv]
  rw [e] at hr
  obtain ⟨a, c, rfl⟩ := owns_slice hr
  exact ⟨a, c, rfl, h1, hr⟩
theorem mv3 {w wr w1 : World} {v2 v3 : Value} {R : List Nat} {g n cap t x : Nat} (h : TwoI w wr v2 (R.take t ++ [x]) g n cap R) (htl : (R.take t).length = t) (hdl : (R.drop t).length = R.length - t) (hr : w1.ownsRow w.heap.size 3 1 v3 (t + 1 + (R.length - t)) (lv (R.take t ++ [x]) ++ lv (R.drop t))) (hg : wr.grownBy w1 v2.ownBlock) : LocI w w1 v3 ((R.take t ++ [x]) ++ R.drop t) := by
  apply loci_append h.loc _ hg
  rw [hdl, List.length_append, htl]
  exact hr
theorem mv_none {wr : World} {L : List Nat} {a : Nat} {ad : Addr} (h : L.length ≤ a) : ∀ j u, (lv (L.drop a))[j]? = some u → wr.cell? (ad.add j) = some u := by
  intro j u hu
  rw [List.drop_eq_nil_of_le h] at hu
  simp [lv] at hu
theorem mv_nil1 {wr : World} {ad : Addr} : ∀ j u, ([] : List Value)[j]? = some u → wr.cell? (ad.add j) = some u := by intro j u hu; simp at hu
theorem mv_nil2 : ∀ u ∈ ([] : List Value), u.oneCell' = true := by intro u hu; simp at hu
theorem mv4 {w wr w1 : World} {v2 v3 : Value} {R : List Nat} {g n cap t x : Nat} (h : TwoI w wr v2 (R.take t ++ [x]) g n cap R) (htl : (R.take t).length = t) (hrt : R.length ≤ t) (hr : w1.ownsRow w.heap.size 3 1 v3 (t + 1 + 0) (lv (R.take t ++ [x]) ++ [])) (hg : wr.grownBy w1 v2.ownBlock) : LocI w w1 v3 ((R.take t ++ [x]) ++ R.drop t) := by
  have hd : R.drop t = [] := List.drop_eq_nil_of_le hrt
  apply loci_append h.loc _ hg
  rw [hd, List.length_append, htl]
  exact hr
theorem mv_part {w wr : World} {g n cap : Nat} {L : List Nat} (h : LocI w wr (.slice (some ⟨g, 0, none⟩) n cap) L) (a : Nat) : ∀ j u, (lv (L.drop a))[j]? = some u → wr.cell? ((⟨g, a, none⟩ : Addr).add j) = some u := by
  have := loci_part h a L.length
  rw [List.take_of_length_le (by simp)] at this
  exact this

set_option maxRecDepth 100000 in
set_option maxHeartbeats 1000000 in
theorem rmoved_calls (f t : Nat) (v : Value) (l : List Nat) (w : World) (hl : RowI w v l) (hf : f < l.length) (ht : t < l.length) (hll : l.length ≤ 6) (h2 : 2 ≤ l.length) :
    Calls Tryz.prog 121 #[v, .int .i64 f, .int .i64 t] w fun e w' => ∃ v', e = .returned v' ∧ LocI w w' v' (movedL l f t) := by
  obtain ⟨i0, hi0, hz0, hz1, hz2⟩ := info_parts Tryz.infoInt
  have HL : Hid (RowI w v l) := hl
  obtain ⟨ao, cap, rfl, hc⟩ := hl
  obtain ⟨g, rfl, _⟩ := hc 0 (by omega)
  have SRC : Hid (∀ w1, Below w.heap.size w w1 → ∀ i (hi : i < l.length), w1.cell? ⟨g, i, none⟩ = some (.int .i64 (l[i] : Nat))) := by
    intro w1 hb i hi
    obtain ⟨g', e, h1⟩ := hc i hi
    simp only [Option.some.injEq, Addr.mk.injEq, and_true] at e
    subst e
    exact cell_below h1 hb
  clear hc HL
  go_enter Tryz.func121, Tryz.ntmps121
  go_wp2_with fail
  go_loopw [7, 8] (fun x7 x8 wr => ∃ i : Nat, i ≤ l.length ∧ x8 = .int .i64 i ∧ Hid (LocI w wr x7 (restTo l f i))) (fun _ x8 _ => l.length - (intOf x8).toNat)
  case atStart => exact ⟨0, Nat.zero_le _, rfl, ⟨Below.refl _ _, World.ownsRow_nil _ _ _ _⟩⟩
  case round =>
    obtain ⟨i, hi, rfl, LR⟩ := hrel
    obtain ⟨ar, cr, rfl⟩ := owns_slice LR.out.row
    by_cases hlt : i < l.length
    · have s0 := SRC.out wr LR.out.bel i hlt
      have HS : Hid (restTo l f (i + 1) = if i = f then restTo l f i else restTo l f i ++ [l[i]]) := by
        show restTo l f (i + 1) = _
        simp only [restTo]
        rw [show l.getD i 0 = l[i] from by simp [List.getD, hlt]]
      have hPl := restTo_len l f i
      have hPl2 : (restTo l f i).length ≤ 6 := by rw [hPl]; split <;> omega
      clear hPl
      generalize l[i] = x at *
      by_cases hif : i = f
      · have HE : Hid (restTo l f (i + 1) = restTo l f i) := HS.out.trans (if_pos hif)
        subst hif
        go_wp2_with fail
        refine ⟨⟨i + 1, hlt, by go_num, ?_⟩, by simp [intOf]; omega⟩
        rw [HE.out]; exact LR
      · have HE : Hid (restTo l f (i + 1) = restTo l f i ++ [x]) := HS.out.trans (if_neg hif)
        have hbne : ((i : Int) != (f : Int)) = true := by simp; omega
        generalize hPP : restTo l f i = P at *
        clear hPP
        have F1 : Hid (P.length + 1 ≤ maxLen) := by show P.length + 1 ≤ maxLen; unfold maxLen; omega
        have F2 : Hid ((P.length + 1) * 8 ≤ 140737488355328) := by show (P.length + 1) * 8 ≤ 140737488355328; omega
        have F3 : Hid (w.heap.size ≤ (wr.alloc (.cells #[.int .i64 (x : Nat)] 3)).heap.size) := by show w.heap.size ≤ (wr.alloc (.cells #[.int .i64 (x : Nat)] 3)).heap.size; have := LR.out.bel.size; simp; omega
        have LA : Hid (LocI w (wr.alloc (.cells #[.int .i64 (x : Nat)] 3)) (.slice ar P.length cr) P) := LR.out.below (below_alloc _ _)
        go_wp2_with (at_builtin; go_must (refine wpList_append_own _ rfl _ _ 49 rfl w.heap.size 3 i0 _ 1 8 Tryz.underlying49 hi0 hz0 hz1 hz2 rfl (Nat.succ_pos 0) (.slice ar P.length cr) P.length (lv P) ?e1 LA.out.row ⟨wr.heap.size, 0, none⟩ 1 1 [.int .i64 (x : Nat)] ?e2 rfl (new_cells wr [.int .i64 (x : Nat)] _) ?e3 F1.out F2.out F3.out ?_); (case e1 => rfl); (case e2 => rfl); (case e3 => simp [Value.oneCell']); intro v' w3 hown hgrow _; have OW : Hid (LocI w w3 v' (P ++ [x])) := loci_append (m := [x]) LA.out hown hgrow; clear hgrow hown)
        refine ⟨⟨i + 1, hlt, by go_num, ?_⟩, by simp [intOf]; omega⟩
        rw [HE.out]; exact OW
    · have HE : Hid (restTo l f i = rest l f) := by show restTo l f i = rest l f; rw [show i = l.length from by omega]; rfl
      have LE : Hid (LocI w wr (.slice ar (rest l f).length cr) (rest l f)) := by have := LR.out; rw [HE.out] at this; exact this
      rw [HE.out]
      have hrl := rest_len l f hf
      clear LR HE
      have s0 := fun w1 hb => SRC.out w1 hb f hf
      have HSF : Hid (∀ w1, Below w.heap.size w w1 → w1.cell? ⟨g, f, none⟩ = some (.int .i64 (l[f] : Nat))) := s0
      have HMV : Hid (movedL l f t = ((rest l f).take t ++ [l[f]]) ++ (rest l f).drop t) := by show movedL l f t = _; unfold movedL; rw [show l.getD f 0 = l[f] from by simp [List.getD, hf]]
      clear s0 SRC
      generalize l[f] = x at *
      generalize rest l f = R at *
      obtain ⟨gr, cr', er, hBr, _⟩ := owns_form LE.out.row (by omega)
      simp only [Value.slice.injEq] at er
      obtain ⟨rfl, _, rfl⟩ := er
      have T0 : Hid (TwoI w wr (.slice none 0 0) [] gr R.length cr R) := ⟨⟨LE.out.bel, World.ownsRow_nil _ _ _ _⟩, LE.out, fun b hb => by simp [Value.ownBlock] at hb⟩
      have htl : (R.take t).length = t := by rw [List.length_take]; omega
      have hdl : (R.drop t).length = R.length - t := List.length_drop
      have hcr : R.length ≤ cr := by
        obtain ⟨_, ⟨e, _⟩ | ⟨_, cap', _, e, _, _, h, _⟩⟩ := LE.out.row
        · simp at e
        · simp at e; omega
      have A1 : Hid (0 + t ≤ maxLen) := by show 0 + t ≤ maxLen; unfold maxLen; omega
      have A2 : Hid ((0 + t) * 8 ≤ 140737488355328) := by show (0 + t) * 8 ≤ 140737488355328; omega
      have A3 : Hid (w.heap.size ≤ wr.heap.size) := LE.out.bel.size
      have A4 : Hid ((lv (R.take t)).length = t * 1) := by show (lv (R.take t)).length = t * 1; simp only [lv, List.length_map, htl]; omega
      have A5 : Hid (∀ j u, (lv (R.take t))[j]? = some u → wr.cell? ((⟨gr, 0, none⟩ : Addr).add j) = some u) := by have := loci_part LE.out 0 t; rw [List.drop_zero] at this; exact this
      have A6 : Hid (∀ u ∈ lv (R.take t), u.oneCell' = true) := lvI_one _
      have HTL : Hid ((R.take t).length = t) := htl
      clear LE htl
      have HDL : Hid ((R.drop t).length = R.length - t) := hdl
      have htR : t ≤ R.length := by omega
      have hR6 : R.length ≤ 6 := by omega
      clear hrl
      have B1 : Hid (t + 1 ≤ maxLen) := by show t + 1 ≤ maxLen; unfold maxLen; omega
      have B2 : Hid ((t + 1) * 8 ≤ 140737488355328) := by show (t + 1) * 8 ≤ 140737488355328; omega
      have C1 : Hid (t + 1 + (R.length - t) ≤ maxLen) := by show t + 1 + (R.length - t) ≤ maxLen; unfold maxLen; omega
      have C2 : Hid ((t + 1 + (R.length - t)) * 8 ≤ 140737488355328) := by show (t + 1 + (R.length - t)) * 8 ≤ 140737488355328; omega
      have C4 : Hid ((lv (R.drop t)).length = (R.length - t) * 1) := by show (lv (R.drop t)).length = (R.length - t) * 1; simp only [lv, List.length_map, hdl]; omega
      have C6 : Hid (∀ u ∈ lv (R.drop t), u.oneCell' = true) := lvI_one _
      clear hdl
      by_cases htc : t = cr
      · subst htc
        have HRT : Hid (R.length ≤ t) := hcr
        go_wp2_with (at_builtin; first | (refine wpList_append_own_at _ rfl _ _ 49 rfl w.heap.size 3 i0 _ 1 8 Tryz.underlying49 hi0 hz0 hz1 hz2 rfl (Nat.succ_pos 0) (.slice none 0 0) 0 [] ?e1 (World.ownsRow_nil _ _ _ _) ⟨gr, 0, none⟩ t t (lv (R.take t)) ?e2 A4.out A5.out A6.out A1.out A2.out A3.out ?_; (case e1 => rfl); (case e2 => rfl); intro v1 w1 hown hgrow _ hat; obtain ⟨a1, c1, rfl, T1⟩ := mv1 T0.out HTL.out hown hgrow hat; have sf := HSF.out w1 T1.out.1.loc.bel; clear hgrow hown hat) | (refine wpList_append_own_at (w := w1.alloc (.cells #[.int .i64 (x : Nat)] 3)) rfl _ _ 49 rfl w.heap.size 3 i0 _ 1 8 Tryz.underlying49 hi0 hz0 hz1 hz2 rfl (Nat.succ_pos 0) (.slice a1 t c1) t (lv (R.take t)) ?e1 (T1.out.2.alloc _) ⟨w1.heap.size, 0, none⟩ 1 1 [.int .i64 (x : Nat)] ?e2 rfl (new_cells w1 [.int .i64 (x : Nat)] _) ?e3 B1.out B2.out (mv_le T1.out.1.loc.bel) ?_; (case e1 => rfl); (case e2 => rfl); (case e3 => simp [Value.oneCell']); intro v2 w2 hown hgrow _ hat; obtain ⟨a2, c2, rfl, T2⟩ := mv2 (T1.out.1.below (below_alloc _ _)) HTL.out hown hgrow hat; clear hgrow hown hat) | (refine wpList_append_own_at (w := w2) rfl _ _ 49 rfl w.heap.size 3 i0 _ 1 8 Tryz.underlying49 hi0 hz0 hz1 hz2 rfl (Nat.succ_pos 0) (.slice a2 (t + 1) c2) (t + 1) (lv (R.take t ++ [x])) ?e1 T2.out.2 ⟨gr, 0, none⟩ 0 0 [] ?e2 rfl mv_nil1 mv_nil2 B1.out B2.out T2.out.1.loc.bel.size ?_; (case e1 => rfl); (case e2 => rfl); intro v3 w3 hown hgrow _ hat; have T3 : Hid (LocI w w3 v3 ((R.take t ++ [x]) ++ R.drop t)) := mv4 T2.out.1 HTL.out HRT.out hown hgrow; clear hgrow hown hat))
        go_ret
        refine ⟨_, rfl, ?_⟩
        rw [HMV.out]
        exact T3.out
      · have htc' : ¬ cr ≤ t := by omega
        go_wp2_with (at_builtin; first | (refine wpList_append_own_at _ rfl _ _ 49 rfl w.heap.size 3 i0 _ 1 8 Tryz.underlying49 hi0 hz0 hz1 hz2 rfl (Nat.succ_pos 0) (.slice none 0 0) 0 [] ?e1 (World.ownsRow_nil _ _ _ _) ⟨gr, 0, none⟩ t cr (lv (R.take t)) ?e2 A4.out A5.out A6.out A1.out A2.out A3.out ?_; (case e1 => rfl); (case e2 => rfl); intro v1 w1 hown hgrow _ hat; obtain ⟨a1, c1, rfl, T1⟩ := mv1 T0.out HTL.out hown hgrow hat; have sf := HSF.out w1 T1.out.1.loc.bel; clear hgrow hown hat) | (refine wpList_append_own_at (w := w1.alloc (.cells #[.int .i64 (x : Nat)] 3)) rfl _ _ 49 rfl w.heap.size 3 i0 _ 1 8 Tryz.underlying49 hi0 hz0 hz1 hz2 rfl (Nat.succ_pos 0) (.slice a1 t c1) t (lv (R.take t)) ?e1 (T1.out.2.alloc _) ⟨w1.heap.size, 0, none⟩ 1 1 [.int .i64 (x : Nat)] ?e2 rfl (new_cells w1 [.int .i64 (x : Nat)] _) ?e3 B1.out B2.out (mv_le T1.out.1.loc.bel) ?_; (case e1 => rfl); (case e2 => rfl); (case e3 => simp [Value.oneCell']); intro v2 w2 hown hgrow _ hat; obtain ⟨a2, c2, rfl, T2⟩ := mv2 (T1.out.1.below (below_alloc _ _)) HTL.out hown hgrow hat; clear hgrow hown hat) | (go_must (refine wpList_append_own_at (w := w2) rfl _ _ 49 rfl w.heap.size 3 i0 _ 1 8 Tryz.underlying49 hi0 hz0 hz1 hz2 rfl (Nat.succ_pos 0) (.slice a2 (t + 1) c2) (t + 1) (lv (R.take t ++ [x])) ?e1 T2.out.2 ⟨gr, t, none⟩ (R.length - t) (cr - t) (lv (R.drop t)) ?e2 C4.out (mv_part T2.out.1.row t) C6.out C1.out C2.out T2.out.1.loc.bel.size ?_); (case e1 => rfl); (case e2 => rfl); intro v3 w3 hown hgrow _ hat; have T3 : Hid (LocI w w3 v3 ((R.take t ++ [x]) ++ R.drop t)) := mv3 T2.out.1 HTL.out HDL.out hown hgrow; clear hgrow hown hat))
        go_ret
        refine ⟨_, rfl, ?_⟩
        rw [HMV.out]
        exact T3.out
end Go.Proofs.YthoodkbdpnffdabGreatDoor
