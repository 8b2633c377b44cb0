/-
  Own work: all stores of a script side by side: what one step on one of them leaves of the others.
-/
import Derived.Test.YthoodkbdpnffdaaGreatDoorOwnA
namespace Go.Proofs.YthoodkbdpnffdaaGreatDoor
open Go.RowKit
open Cho (U64 Tab full col Nd Red)

def prv : List Pr → List Value
  | [] => []
  | p :: l => .pointer (some ⟨p.x, 0, none⟩) :: .pointer (some ⟨p.y, 0, none⟩) :: prv l
theorem prv_len (l : List Pr) : (prv l).length = l.length * 2 := by
  induction l with
  | nil => rfl
  | cons p l ih => simp only [prv, List.length_cons, ih]; omega
theorem prv_snoc (l : List Pr) (p : Pr) : prv l ++ [.pointer (some ⟨p.x, 0, none⟩), .pointer (some ⟨p.y, 0, none⟩)] = prv (l ++ [p]) := by
  induction l with
  | nil => rfl
  | cons q l ih => simp only [prv, List.cons_append, ih]
theorem prv_get (l : List Pr) (i : Nat) (hi : i < l.length) : (prv l)[i * 2]? = some (.pointer (some ⟨l[i].x, 0, none⟩)) ∧ (prv l)[i * 2 + 1]? = some (.pointer (some ⟨l[i].y, 0, none⟩)) := by
  induction l generalizing i with
  | nil => simp at hi
  | cons p l ih =>
    cases i with
    | zero => exact ⟨rfl, rfl⟩
    | succ i =>
      have := ih i (by simpa using hi)
      rw [show (i + 1) * 2 = i * 2 + 1 + 1 from by omega]
      simpa [prv] using this
theorem prv_set (l : List Pr) (i : Nat) (p : Pr) (hi : i < l.length) (hx : p.x = l[i].x) (hy : p.y = l[i].y) : prv (l.set i p) = prv l := by
  induction l generalizing i with
  | nil => rfl
  | cons q l ih =>
    cases i with
    | zero => simp only [List.set_cons_zero, prv]; simp at hx hy; rw [hx, hy]
    | succ i => simp only [List.set_cons_succ, prv]; rw [ih i (by simpa using hi) (by simpa using hx) (by simpa using hy)]

structure Apart (p q : Pr) : Prop where
  x : p.x ≠ q.x
  y : p.y ≠ q.y
  rv : ∀ g, p.rv.ownBlock = some g → q.rv.ownBlock ≠ some g
theorem Apart.symm {p q : Pr} (h : Apart p q) : Apart q p := ⟨Ne.symm h.x, Ne.symm h.y, fun g h1 h2 => h.rv g h2 h1⟩
/-- All that a script has made since the world w0. -/
structure Scr (w0 w : World) (wb : Nat) (sv lw : Value) (ps : List Pr) (ls : List (Value × Int)) : Prop where
  blk : w.heap[wb]? = some (.cells #[sv, lw] 29 (0, 0))
  lrow : w.ownsRow w0.heap.size 51 2 lw ls.length (lsv ls)
  lok : ∀ p ∈ ls, RowK w0.heap.size w p.1 p.2
  row : w.ownsRow w0.heap.size 45 2 sv ps.length (prv ps)
  ok : ∀ i (h : i < ps.length), PairOk w0.heap.size w ps[i]
  apart : ∀ i j (hi : i < ps.length) (hj : j < ps.length), i ≠ j → Apart ps[i] ps[j]
  lo : w0.heap.size ≤ wb
  bel : Below w0.heap.size w0 w

theorem own_kind {B : Nat} {w : World} {p : Pr} (h : PairOk B w p) {k : Nat} (hk : p.own k) : ∃ c T, w.heap[k]? = some (.cells c T (0, 0)) ∧ (T = 62 ∨ T = 65 ∨ T = 115) ∧ B ≤ k := by
  rcases hk with rfl | rfl | hk
  · obtain ⟨c, hc⟩ := h.blk
    exact ⟨c, _, hc, .inl rfl, h.lo⟩
  · exact ⟨_, _, h.ref.block, .inr (.inl rfl), h.ref.lo⟩
  · obtain ⟨c, hc⟩ := owns_kind h.ref.row hk
    exact ⟨c, _, hc, .inr (.inr rfl), (h.ref.row.lt k hk).1⟩
theorem own_other {B : Nat} {w : World} {p : Pr} (h : PairOk B w p) {k : Nat} {c : Array Value} {T : TypeId} (hb : w.heap[k]? = some (.cells c T (0, 0))) (hT : T ≠ 62 ∧ T ≠ 65 ∧ T ≠ 115) : ¬ p.own k := by
  intro hk
  obtain ⟨c', T', hb', hT', _⟩ := own_kind h hk
  rcases hT' with rfl | rfl | rfl
  · exact kind_ne hb hb' hT.1 rfl
  · exact kind_ne hb hb' hT.2.1 rfl
  · exact kind_ne hb hb' hT.2.2 rfl
/-- Another pair stays as it is. -/
theorem pair_other {B : Nat} {w w' : World} {p q : Pr} (h : PairOk B w p) (hq : PairOk B w q) (ha : Apart p q) (hc : Ch p.own w w') : PairOk B w' q := by
  obtain ⟨cx, hx⟩ := hq.blk
  refine ⟨hq.has.ch hc (fun h0 => ?_) (fun hk => ?_) (fun k c T hk hT => ?_), hq.ref.ch hc (fun hk => ?_) (fun g hg hk => ?_) (fun g hg => ?_), hq.sim, hq.lo, hq.pos⟩
  · obtain ⟨_, _, _, _, hB⟩ := own_kind h h0
    have := h.pos; omega
  · rcases hk with e | e | e
    · exact ha.x e.symm
    · exact kind_ne hx h.ref.block (by decide) e
    · obtain ⟨c, hc'⟩ := owns_kind h.ref.row e
      exact kind_ne hx hc' (by decide) rfl
  · rcases hT with rfl | rfl <;> exact own_other h hk (by decide)
  · rcases hk with e | e | e
    · obtain ⟨c, hc'⟩ := h.blk
      exact kind_ne hq.ref.block hc' (by decide) e
    · exact ha.y e.symm
    · obtain ⟨c, hc'⟩ := owns_kind h.ref.row e
      exact kind_ne hq.ref.block hc' (by decide) rfl
  · obtain ⟨cg, hcg⟩ := owns_kind hq.ref.row hg
    rcases hk with e | e | e
    · obtain ⟨c, hc'⟩ := h.blk
      exact kind_ne hcg hc' (by decide) e
    · exact kind_ne hcg h.ref.block (by decide) e
    · exact ha.rv g e hg
  · obtain ⟨cg, hcg⟩ := owns_kind hq.ref.ords hg
    exact own_other h hcg (by decide)
/-- A STEP ON ONE PAIR. -/
theorem scr_step {w0 w w' : World} {wb : Nat} {sv lw : Value} {ps : List Pr} {ls : List (Value × Int)} (h : Scr w0 w wb sv lw ps ls) {i : Nat} (hi : i < ps.length) {p' : Pr} (hs : PStep w0.heap.size w w' ps[i] p') : Scr w0 w' wb sv lw (ps.set i p') ls := by
  have hp := h.ok i hi
  have hlen : (ps.set i p').length = ps.length := by simp
  refine ⟨?_, ?_, ?_, ?_, ?_, ?_, h.lo, ?_⟩
  · exact (hs.ch.block wb (lt_of_block h.blk) (own_other hp h.blk (by decide))).trans h.blk
  · refine owns_kept h.lrow fun g hg => ?_
    obtain ⟨c, hc⟩ := owns_kind h.lrow hg
    exact hs.ch.block g (lt_of_block hc) (own_other hp hc (by decide))
  · exact fun q hq => (h.lok q hq).kept fun g c hc _ => hs.ch.block g (lt_of_block hc) (own_other hp hc (by decide))
  · rw [hlen, prv_set ps i p' hi hs.x hs.y]
    refine owns_kept h.row fun g hg => ?_
    obtain ⟨c, hc⟩ := owns_kind h.row hg
    exact hs.ch.block g (lt_of_block hc) (own_other hp hc (by decide))
  · intro j hj
    rw [hlen] at hj
    by_cases e : i = j
    · subst e; simpa using hs.ok
    · rw [List.getElem_set_ne e]
      exact pair_other hp (h.ok j hj) (h.apart i j hi hj e) hs.ch
  · have key : ∀ j (hj : j < ps.length), i ≠ j → Apart p' ps[j] := by
      intro j hj e
      have ha := h.apart i j hi hj e
      refine ⟨by rw [hs.x]; exact ha.x, by rw [hs.y]; exact ha.y, fun g h1 h2 => ?_⟩
      rcases hs.rv g h1 with e1 | e1
      · exact ha.rv g e1 h2
      · have := ((h.ok j hj).ref.row.lt g h2).2; omega
    intro j k hj hk hjk
    rw [hlen] at hj hk
    rw [List.getElem_set, List.getElem_set]
    by_cases e1 : i = j
    · rw [if_pos e1]
      by_cases e2 : i = k
      · omega
      · rw [if_neg e2]; exact key k hk e2
    · rw [if_neg e1]
      by_cases e2 : i = k
      · rw [if_pos e2]; exact (key j hj e1).symm
      · rw [if_neg e2]; exact h.apart j k hj hk hjk
  · refine ⟨hs.ch.os.trans h.bel.os, hs.ch.tape.trans h.bel.tape, hs.ch.output.trans h.bel.output, Nat.le_trans h.bel.size hs.ch.size, fun k hk => ?_⟩
    refine (hs.ch.block k (Nat.lt_of_lt_of_le hk h.bel.size) (fun ho => ?_)).trans (h.bel.block k hk)
    obtain ⟨_, _, _, _, hB⟩ := own_kind hp ho
    omega
theorem Scr.below {w0 w w' : World} {wb : Nat} {sv lw : Value} {ps : List Pr} {ls : List (Value × Int)} (h : Scr w0 w wb sv lw ps ls) (hb : Below w.heap.size w w') : Scr w0 w' wb sv lw ps ls :=
  ⟨(hb.block wb (lt_of_block h.blk)).trans h.blk, owns_kept h.lrow fun g hg => hb.block g (h.lrow.lt g hg).2, fun p hp => (h.lok p hp).kept fun g _ hc _ => hb.block g (lt_of_block hc), owns_kept h.row fun g hg => hb.block g (h.row.lt g hg).2, fun i hi => (h.ok i hi).below hb, h.apart, h.lo, below_trans h.bel hb⟩
theorem owns_mono {w : World} {B B' : Nat} {e : TypeId} {sz : Nat} {v : Value} {n : Nat} {xs : List Value} (h : w.ownsRow B e sz v n xs) (hB : B' ≤ B) : w.ownsRow B' e sz v n xs := by
  obtain ⟨h1, h2⟩ := h
  refine ⟨h1, h2.imp id ?_⟩
  rintro ⟨g, cap', cur, e1, e2, e3⟩
  exact ⟨g, cap', cur, e1, by omega, e3⟩
theorem RefAt.mono {B B' : Nat} {w : World} {y : Nat} {r : RSt} {rv ov : Value} (h : RefAt B w y r rv ov) (hB : B' ≤ B) : RefAt B' w y r rv ov :=
  ⟨h.block, owns_mono h.row hB, owns_mono h.ords hB, h.ok, Nat.le_trans hB h.lo⟩
/-- What lies beside the row of pairs stays, where the row grows and the block of the script's world is written. -/
theorem scr_kept {w0 w w' : World} {wb : Nat} {sv lw : Value} {ps : List Pr} {ls : List (Value × Int)} (h : Scr w0 w wb sv lw ps ls) {q : Pr} (hq : PairOk w0.heap.size w q) (hc : Ch (fun k => k = wb ∨ sv.ownBlock = some k) w w') : PairOk w0.heap.size w' q := by
  have hF : ∀ k c T, w.heap[k]? = some (.cells c T (0, 0)) → T ≠ 29 ∧ T ≠ 45 → ¬ (k = wb ∨ sv.ownBlock = some k) := by
    rintro k c T hk ⟨h1, h2⟩ (e | e)
    · exact kind_ne hk h.blk h1 e
    · obtain ⟨c', hc'⟩ := owns_kind h.row e
      exact kind_ne hk hc' h2 rfl
  obtain ⟨cx, hx⟩ := hq.blk
  have h0 : ¬ (0 = wb ∨ sv.ownBlock = some 0) := by
    have hp := hq.pos
    rintro (e | e)
    · have := h.lo; omega
    · have := (h.row.lt 0 e).1; omega
  refine ⟨hq.has.ch hc h0 (hF _ _ _ hx (by decide)) (fun k c T hk hT => hF k c T hk (by rcases hT with rfl | rfl <;> decide)), hq.ref.ch hc (hF _ _ _ hq.ref.block (by decide)) (fun g hg => ?_) (fun g hg => ?_), hq.sim, hq.lo, hq.pos⟩
  · obtain ⟨c, hc'⟩ := owns_kind hq.ref.row hg
    exact hF g c _ hc' (by decide)
  · obtain ⟨c, hc'⟩ := owns_kind hq.ref.ords hg
    exact hF g c _ hc' (by decide)
/-- A STEP ON ONE PAIR BY WHICH LISTS COME OUT. -/
theorem scr_lists {w0 w w' : World} {wb : Nat} {sv lw lw' : Value} {ps : List Pr} {ls ms : List (Value × Int)} (h : Scr w0 w wb sv lw ps ls) {i : Nat} (hi : i < ps.length) {p' : Pr}
    (hok : PairOk w0.heap.size w' p') (hx : p'.x = ps[i].x) (hy : p'.y = ps[i].y) (hrv : ∀ g, p'.rv.ownBlock = some g → ps[i].rv.ownBlock = some g ∨ w.heap.size ≤ g)
    (hch : Ch (fun k => ps[i].own k ∨ k = wb ∨ lw.ownBlock = some k) w w')
    (hblk : w'.heap[wb]? = some (.cells #[sv, lw'] 29 (0, 0)))
    (hl : w'.ownsRow w0.heap.size 51 2 lw' (ls ++ ms).length (lsv (ls ++ ms))) (hm : ∀ p ∈ ms, RowK w0.heap.size w' p.1 p.2) :
    Scr w0 w' wb sv lw' (ps.set i p') (ls ++ ms) := by
  have hp := h.ok i hi
  have hlen : (ps.set i p').length = ps.length := by simp
  have hF : ∀ k c T, w.heap[k]? = some (.cells c T (0, 0)) → T ≠ 29 ∧ T ≠ 51 → ¬ (k = wb ∨ lw.ownBlock = some k) := by
    rintro k c T hk ⟨h1, h2⟩ (e | e)
    · exact kind_ne hk h.blk h1 e
    · obtain ⟨c', hc'⟩ := owns_kind h.lrow e
      exact kind_ne hk hc' h2 rfl
  have hkeep : ∀ k c T, w.heap[k]? = some (.cells c T (0, 0)) → T ≠ 29 ∧ T ≠ 51 → ¬ ps[i].own k → w'.heap[k]? = w.heap[k]? := by
    intro k c T hk hT ho
    exact hch.block k (lt_of_block hk) (fun e => e.elim ho (hF k c T hk hT))
  refine ⟨hblk, hl, ?_, ?_, ?_, ?_, h.lo, ?_⟩
  · intro q hq
    rcases List.mem_append.1 hq with hq | hq
    · exact (h.lok q hq).kept fun g c hc _ => hkeep g c _ hc (by decide) (own_other hp hc (by decide))
    · exact hm q hq
  · rw [hlen, prv_set ps i p' hi hx hy]
    refine owns_kept h.row fun g hg => ?_
    obtain ⟨c, hc⟩ := owns_kind h.row hg
    exact hkeep g c _ hc (by decide) (own_other hp hc (by decide))
  · intro j hj
    rw [hlen] at hj
    by_cases e : i = j
    · subst e; simpa using hok
    · rw [List.getElem_set_ne e]
      have hq := h.ok j hj
      obtain ⟨cx, hqx⟩ := hq.blk
      have ha := h.apart i j hi hj e
      have hno : ∀ k c T, w.heap[k]? = some (.cells c T (0, 0)) → T ≠ 29 ∧ T ≠ 51 → ¬ ps[i].own k → ¬ (ps[i].own k ∨ k = wb ∨ lw.ownBlock = some k) := fun k c T hk hT ho e => e.elim ho (hF k c T hk hT)
      refine ⟨hq.has.ch hch ?_ (hno _ _ _ hqx (by decide) ?_) (fun k c T hk hT => hno k c T hk (by rcases hT with rfl | rfl <;> decide) ?_), hq.ref.ch hch (hno _ _ _ hq.ref.block (by decide) ?_) (fun g hg => ?_) (fun g hg => ?_), hq.sim, hq.lo, hq.pos⟩
      · have hpos := hp.pos
        rintro (h0 | h0 | h0)
        · obtain ⟨_, _, _, _, hB⟩ := own_kind hp h0; omega
        · have := h.lo; omega
        · have := (h.lrow.lt 0 h0).1; omega
      · rintro (e' | e' | e')
        · exact ha.x e'.symm
        · exact kind_ne hqx hp.ref.block (by decide) e'
        · obtain ⟨c, hc'⟩ := owns_kind hp.ref.row e'
          exact kind_ne hqx hc' (by decide) rfl
      · rcases hT with rfl | rfl <;> exact own_other hp hk (by decide)
      · rintro (e' | e' | e')
        · obtain ⟨c, hc'⟩ := hp.blk
          exact kind_ne hq.ref.block hc' (by decide) e'
        · exact ha.y e'.symm
        · obtain ⟨c, hc'⟩ := owns_kind hp.ref.row e'
          exact kind_ne hq.ref.block hc' (by decide) rfl
      · obtain ⟨cg, hcg⟩ := owns_kind hq.ref.row hg
        refine hno g cg _ hcg (by decide) ?_
        rintro (e' | e' | e')
        · obtain ⟨c, hc'⟩ := hp.blk
          exact kind_ne hcg hc' (by decide) e'
        · exact kind_ne hcg hp.ref.block (by decide) e'
        · exact ha.rv g e' hg
      · obtain ⟨cg, hcg⟩ := owns_kind hq.ref.ords hg
        exact hno g cg _ hcg (by decide) (own_other hp hcg (by decide))
  · have key : ∀ j (hj : j < ps.length), i ≠ j → Apart p' ps[j] := by
      intro j hj e
      have ha := h.apart i j hi hj e
      refine ⟨by rw [hx]; exact ha.x, by rw [hy]; exact ha.y, fun g h1 h2 => ?_⟩
      rcases hrv g h1 with e1 | e1
      · exact ha.rv g e1 h2
      · have := ((h.ok j hj).ref.row.lt g h2).2; omega
    intro j k hj hk hjk
    rw [hlen] at hj hk
    rw [List.getElem_set, List.getElem_set]
    by_cases e1 : i = j
    · rw [if_pos e1]
      by_cases e2 : i = k
      · omega
      · rw [if_neg e2]; exact key k hk e2
    · rw [if_neg e1]
      by_cases e2 : i = k
      · rw [if_pos e2]; exact (key j hj e1).symm
      · rw [if_neg e2]; exact h.apart j k hj hk hjk
  · refine ⟨hch.os.trans h.bel.os, hch.tape.trans h.bel.tape, hch.output.trans h.bel.output, Nat.le_trans h.bel.size hch.size, fun k hk => ?_⟩
    refine (hch.block k (Nat.lt_of_lt_of_le hk h.bel.size) ?_).trans (h.bel.block k hk)
    rintro (ho | e | e)
    · obtain ⟨_, _, _, _, hB⟩ := own_kind hp ho; omega
    · have := h.lo; omega
    · have := (h.lrow.lt k e).1; omega
end Go.Proofs.YthoodkbdpnffdaaGreatDoor
