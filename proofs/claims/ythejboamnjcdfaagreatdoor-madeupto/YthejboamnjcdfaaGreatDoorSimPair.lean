/-
  Own work: the program and the document's answer make the same of the same calls (plain mathematics).
-/
import Derived.Test.YthejboamnjcdfaaGreatDoorAnsW
namespace Go.Proofs.YthejboamnjcdfaaGreatDoor
open Cho (U64 Tab full col Nd Red)

section
variable {st : St} {r : RSt} (h : Sim st r) (hg : st.given + 1 < 4294967295)
include h hg
theorem Sim.const (v : Bool) : (st.made (if v then full st.n else 0)).2 = (r.made (if v then full r.n else 0)).2 ∧ Sim (st.made (if v then full st.n else 0)).1 (r.made (if v then full r.n else 0)).1 := by
  rw [h.n]
  apply sim_made h _ hg
  cases v
  · exact Nat.two_pow_pos _
  · exact Cho.full_tab _
theorem Sim.var (i : Int) : (st.var i).2 = (r.var i).2 ∧ Sim (st.var i).1 (r.var i).1 := by
  unfold St.var RSt.var
  rw [h.n]
  by_cases hi : 0 ≤ i ∧ i < st.n
  · rw [if_pos hi, if_pos hi]
    exact sim_made h (Nat.lt_of_le_of_lt Nat.and_le_right (Cho.full_tab _)) hg
  · rw [if_neg hi, if_neg hi]; exact ⟨rfl, h⟩
theorem Sim.make (t : Nat) : (st.make t).2 = (r.make t).2 ∧ Sim (st.make t).1 (r.make t).1 := by
  unfold St.make RSt.make
  rw [h.n]
  by_cases hi : t ≤ full st.n
  · rw [if_pos hi, if_pos hi]
    exact sim_made h (Nat.lt_of_le_of_lt hi (Cho.full_tab _)) hg
  · rw [if_neg hi, if_neg hi]; exact ⟨rfl, h⟩
theorem Sim.apply (c : Int) (a b : Nat) : (st.apply c a b).2 = (r.apply c a b).2 ∧ Sim (st.apply c a b).1 (r.apply c a b).1 := by
  unfold St.apply RSt.apply
  rw [h.n]
  by_cases hi : 0 ≤ c ∧ c ≤ 15
  · rw [if_pos hi, if_pos hi, ← h.get a, ← h.get b]
    cases ha : st.get a with
    | none => exact ⟨rfl, h⟩
    | some x =>
      cases hb : st.get b with
      | none => exact ⟨rfl, h⟩
      | some y => exact sim_made h (Cho.joinT_tab _ _ _ _ (sget_tab ha) (sget_tab hb)) hg
  · rw [if_neg hi, if_neg hi]; exact ⟨rfl, h⟩
theorem Sim.ite (a b c : Nat) : (st.ite a b c).2 = (r.ite a b c).2 ∧ Sim (st.ite a b c).1 (r.ite a b c).1 := by
  unfold St.ite RSt.ite
  rw [← h.get a, ← h.get b, ← h.get c]
  cases ha : st.get a with
  | none => exact ⟨rfl, h⟩
  | some x =>
    cases hb : st.get b with
    | none => exact ⟨rfl, h⟩
    | some y =>
      cases hc : st.get c with
      | none => exact ⟨rfl, h⟩
      | some z => exact sim_made h (Cho.chooseT_tab (sget_tab hb) (sget_tab hc)) hg
theorem Sim.restrict (a : Nat) (v : Int) (to : Bool) : (st.restrict a v to).2 = (r.restrict a v to).2 ∧ Sim (st.restrict a v to).1 (r.restrict a v to).1 := by
  unfold St.restrict RSt.restrict
  rw [h.n]
  by_cases hi : 0 ≤ v ∧ v < st.n
  · rw [if_pos hi, if_pos hi, ← h.get a]
    cases ha : st.get a with
    | none => exact ⟨rfl, h⟩
    | some x => exact sim_made h (Cho.fix_tab _ _ (sget_tab ha) h.inv.n6 (by omega)) hg
  · rw [if_neg hi, if_neg hi]; exact ⟨rfl, h⟩
theorem Sim.compose (a : Nat) (v : Int) (b : Nat) : (st.compose a v b).2 = (r.compose a v b).2 ∧ Sim (st.compose a v b).1 (r.compose a v b).1 := by
  unfold St.compose RSt.compose
  rw [h.n]
  by_cases hi : 0 ≤ v ∧ v < st.n
  · rw [if_pos hi, if_pos hi, ← h.get a, ← h.get b]
    cases ha : st.get a with
    | none => exact ⟨rfl, h⟩
    | some x =>
      cases hb : st.get b with
      | none => exact ⟨rfl, h⟩
      | some y => exact sim_made h (Cho.putT_tab _ _ (sget_tab ha) h.inv.n6 (by omega)) hg
  · rw [if_neg hi, if_neg hi]; exact ⟨rfl, h⟩
theorem Sim.quantify (a x : Nat) (all : Bool) : (st.quantify a x all).2 = (r.quantify a x all).2 ∧ Sim (st.quantify a x all).1 (r.quantify a x all).1 := by
  unfold St.quantify RSt.quantify
  rw [h.n]
  by_cases hi : x < 2 ^ st.n
  · rw [if_pos hi, if_pos hi, ← h.get a]
    cases ha : st.get a with
    | none => exact ⟨rfl, h⟩
    | some f => exact sim_made h (Cho.quantT_tab _ (sget_tab ha) h.inv.n6 hi) hg
  · rw [if_neg hi, if_neg hi]; exact ⟨rfl, h⟩
end
theorem Sim.release {st : St} {r : RSt} (h : Sim st r) (a : Nat) : (st.release a).2 = (r.release a).2 ∧ Sim (st.release a).1 (r.release a).1 := by
  unfold St.release RSt.release
  rw [← h.get a]
  cases ha : st.get a with
  | none => exact ⟨rfl, h⟩
  | some f => exact ⟨rfl, sim_drop h (St.live_of ha).1⟩
theorem Sim.sizeA {st : St} {r : RSt} (h : Sim st r) (a : Nat) : sizeA (fun _ => st.size a) (st.get a) = sizeA r.size (r.get a) := by
  rw [h.get a]
  cases ha : r.get a with
  | none => rfl
  | some f => show (st.size a, 0) = (r.size f, 0); rw [h.size ha]

/-- No call gives more than one handle. -/
theorem made_given (r : RSt) (t : Nat) : (r.made t).1.given ≤ r.given + 1 := by
  unfold RSt.made
  split
  · split
    · exact Nat.le_refl _
    · exact Nat.le_succ _
  · exact Nat.le_succ _
theorem var_given (r : RSt) (i : Int) : (r.var i).1.given ≤ r.given + 1 := by
  unfold RSt.var; split
  · exact made_given _ _
  · exact Nat.le_succ _
theorem make_given (r : RSt) (t : Nat) : (r.make t).1.given ≤ r.given + 1 := by
  unfold RSt.make; split
  · exact made_given _ _
  · exact Nat.le_succ _
theorem apply_given (r : RSt) (c : Int) (a b : Nat) : (r.apply c a b).1.given ≤ r.given + 1 := by
  unfold RSt.apply; split
  · split
    · exact made_given _ _
    · exact Nat.le_succ _
  · exact Nat.le_succ _
theorem ite_given (r : RSt) (a b c : Nat) : (r.ite a b c).1.given ≤ r.given + 1 := by
  unfold RSt.ite; split
  · exact made_given _ _
  · exact Nat.le_succ _
theorem restrict_given (r : RSt) (a : Nat) (v : Int) (to : Bool) : (r.restrict a v to).1.given ≤ r.given + 1 := by
  unfold RSt.restrict; split
  · split
    · exact made_given _ _
    · exact Nat.le_succ _
  · exact Nat.le_succ _
theorem compose_given (r : RSt) (a : Nat) (v : Int) (b : Nat) : (r.compose a v b).1.given ≤ r.given + 1 := by
  unfold RSt.compose; split
  · split
    · exact made_given _ _
    · exact Nat.le_succ _
  · exact Nat.le_succ _
theorem quantify_given (r : RSt) (a x : Nat) (all : Bool) : (r.quantify a x all).1.given ≤ r.given + 1 := by
  unfold RSt.quantify; split
  · split
    · exact made_given _ _
    · exact Nat.le_succ _
  · exact Nat.le_succ _
theorem release_given (r : RSt) (a : Nat) : (r.release a).1.given ≤ r.given + 1 := by
  unfold RSt.release; split
  · exact Nat.le_succ _
  · exact Nat.le_succ _
end Go.Proofs.YthejboamnjcdfaaGreatDoor

/-
  Own work: a store of the program beside one of the document's answer: what keeps them as they are.
-/
namespace Go.Proofs.YthejboamnjcdfaaGreatDoor
open Go.RowKit
open Cho (U64 Tab full col Nd Red)

/-- The program's store stays, where blocks of its kinds do. -/
theorem Has.ch {F : Nat → Prop} {w w' : World} {s : Nat} {st : St} (h : Has w s st) (hc : Ch F w w') (h0 : ¬ F 0) (hs : ¬ F s)
    (hF : ∀ k c T, w.heap[k]? = some (.cells c T (0, 0)) → T = 3 ∨ T = 149 → ¬ F k) : Has w' s st := by
  refine ⟨?_, h.inv, h.few⟩
  obtain ⟨hp, ⟨go, capo, nv, B', hb, ho, ⟨cur, hcur⟩, hcap, hrow⟩, h1, h2, h3, h4, h5, h6, h7, hcol⟩ := h.lies
  have kgo : w'.heap[go]? = w.heap[go]? := hc.block go (lt_of_block hcur) (hF go _ _ hcur (.inl rfl))
  refine ⟨hp, ⟨go, capo, nv, B', (hc.block s (lt_of_block hb) hs).trans hb, ?_, ⟨cur, kgo.trans hcur⟩, hcap, ?_⟩, h1, h2, h3, h4, h5, h6, h7, ?_⟩
  · exact fun i hi => (World.cell?_of_block (a := ⟨go, i, none⟩) kgo).trans (ho i hi)
  · refine owns_kept hrow fun g hgb => ?_
    obtain ⟨_, ⟨rfl, _⟩ | ⟨g', cap, cu, rfl, _, hg2, _⟩⟩ := hrow
    · simp [Value.ownBlock] at hgb
    · obtain rfl : g' = g := by simpa [Value.ownBlock] using hgb
      exact hc.block g' (lt_of_block hg2) (hF g' _ _ hg2 (.inr rfl))
  · exact fun i hi => (World.cell?_of_block (a := ⟨0, i, none⟩) (hc.block 0 (cols_pos hcol) h0)).trans (hcol i hi)
/-- The document's store stays. -/
theorem RefAt.ch {F : Nat → Prop} {B : Nat} {w w' : World} {y : Nat} {r : RSt} {rv ov : Value} (h : RefAt B w y r rv ov) (hc : Ch F w w') (hy : ¬ F y) (hr : ∀ g, rv.ownBlock = some g → ¬ F g) (ho : ∀ g, ov.ownBlock = some g → ¬ F g) : RefAt B w' y r rv ov :=
  ⟨(hc.block y (lt_of_block h.block) hy).trans h.block, owns_kept h.row fun g hg => hc.block g (h.row.lt g hg).2 (hr g hg), owns_kept h.ords fun g hg => hc.block g (h.ords.lt g hg).2 (ho g hg), h.ok, h.lo⟩
theorem owns_kind {w : World} {B : Nat} {e : TypeId} {sz : Nat} {v : Value} {n : Nat} {xs : List Value} (h : w.ownsRow B e sz v n xs) {g : Nat} (hg : v.ownBlock = some g) : ∃ c, w.heap[g]? = some (.cells c e (0, 0)) := by
  obtain ⟨_, ⟨rfl, _⟩ | ⟨g', cap, cu, rfl, _, hg2, _⟩⟩ := h
  · simp [Value.ownBlock] at hg
  · obtain rfl : g' = g := by simpa [Value.ownBlock] using hg
    exact ⟨cu, hg2⟩
theorem kind_ne {w : World} {a b : Nat} {c d : Array Value} {T U : TypeId} (ha : w.heap[a]? = some (.cells c T (0, 0))) (hb : w.heap[b]? = some (.cells d U (0, 0))) (h : T ≠ U) : a ≠ b := by
  intro e; subst e
  rw [ha] at hb
  simp at hb
  exact h hb.2

/-- A store of the program in block x, one of the document's answer in block y. -/
structure Pr where
  x : Nat
  y : Nat
  st : St
  r : RSt
  rv : Value
  ov : Value
structure PairOk (B : Nat) (w : World) (p : Pr) : Prop where
  has : Has w p.x p.st
  ref : RefAt B w p.y p.r p.rv p.ov
  sim : Sim p.st p.r
  lo : B ≤ p.x
  pos : 0 < B
theorem PairOk.blk {B : Nat} {w : World} {p : Pr} (h : PairOk B w p) : ∃ c, w.heap[p.x]? = some (.cells c 62 (0, 0)) := by
  obtain ⟨_, _, _, _, hb, _⟩ := h.has.lies.ex; exact ⟨_, hb⟩
/-- The blocks that calls on the pair may change. -/
def Pr.own (p : Pr) (k : Nat) : Prop := k = p.x ∨ k = p.y ∨ p.rv.ownBlock = some k
theorem PairOk.below {B : Nat} {w w' : World} {p : Pr} (h : PairOk B w p) (hb : Below w.heap.size w w') : PairOk B w' p := ⟨h.has.below hb, h.ref.below hb, h.sim, h.lo, h.pos⟩
/-- What a step on the pair leaves. -/
structure PStep (B : Nat) (w w' : World) (p p' : Pr) : Prop where
  ok : PairOk B w' p'
  x : p'.x = p.x
  y : p'.y = p.y
  rv : ∀ g, p'.rv.ownBlock = some g → p.rv.ownBlock = some g ∨ w.heap.size ≤ g
  ch : Ch p.own w w'
  given : p'.r.given ≤ p.r.given + 1
theorem PStep.same {B : Nat} {w w' : World} {p : Pr} (h : PairOk B w p) (hb : Below w.heap.size w w') : PStep B w w' p p :=
  ⟨h.below hb, rfl, rfl, fun _ hg => .inl hg, Ch.of_below hb, Nat.le_succ _⟩
/-- The document's store beside a call on the program's. -/
theorem ref_beside {B : Nat} {w w1 : World} {p : Pr} (h : PairOk B w p) {st' : St} (hc : CStep w w1 p.x st') : RefAt B w1 p.y p.r p.rv p.ov := by
  obtain ⟨cx, hx⟩ := h.blk
  have hch : Ch (fun k => k = p.x) w w1 := Ch.of_grown hc.gr (fun k hk => by simpa using hk.symm)
  refine h.ref.ch hch (fun e => ?_) (fun g hg e => ?_) (fun g hg e => ?_)
  · exact kind_ne h.ref.block hx (by decide) e
  · obtain ⟨c, hcg⟩ := owns_kind h.ref.row hg
    exact kind_ne hcg hx (by decide) e
  · obtain ⟨c, hcg⟩ := owns_kind h.ref.ords hg
    exact kind_ne hcg hx (by decide) e
/-- A call on the program's store, then one on the document's. -/
theorem pair_step {B : Nat} {w w1 w2 : World} {p : Pr} {st' : St} {r' : RSt} (h : PairOk B w p) (hc : CStep w w1 p.x st') (hr : RStep B w1 w2 p.y p.rv p.ov r') (hs : Sim st' r') (hg : r'.given ≤ p.r.given + 1) :
    ∃ p', PStep B w w2 p p' := by
  obtain ⟨rv', h1, h2⟩ := hr.ex
  have href := ref_beside h hc
  obtain ⟨_, _, _, _, hbx, _⟩ := hc.has.lies.ex
  have hpos := h.pos
  have hx0 : ∀ k, k = p.y ∨ p.rv.ownBlock = some k → ∃ c T, w1.heap[k]? = some (.cells c T (0, 0)) ∧ (T = 65 ∨ T = 114) ∧ B ≤ k := by
    rintro k (rfl | hk)
    · exact ⟨_, _, href.block, .inl rfl, href.lo⟩
    · obtain ⟨c, hcg⟩ := owns_kind href.row hk
      exact ⟨c, _, hcg, .inr rfl, (href.row.lt k hk).1⟩
  have hhas : Has w2 p.x st' := by
    refine hc.has.ch hr.ch (fun hk => ?_) (fun hk => ?_) (fun k c T hk hT hF => ?_)
    · obtain ⟨_, _, _, _, hB⟩ := hx0 0 hk; omega
    · obtain ⟨c, T, hk1, hT, _⟩ := hx0 _ hk
      rcases hT with rfl | rfl
      · exact kind_ne hk1 hbx (by decide) rfl
      · exact kind_ne hk1 hbx (by decide) rfl
    · obtain ⟨c', T', hk1, hT', _⟩ := hx0 k hF
      rcases hT with rfl | rfl <;> rcases hT' with rfl | rfl <;> exact kind_ne hk1 hk (by decide) rfl
  refine ⟨{ p with st := st', r := r', rv := rv' }, ⟨hhas, h1, hs, h.lo, h.pos⟩, rfl, rfl, ?_, ?_, hg⟩
  · intro g hg'
    rcases h2 g hg' with e | e
    · exact .inl e
    · exact .inr (Nat.le_trans hc.gr.size e)
  · have c1 : Ch p.own w w1 := Ch.of_grown hc.gr (fun k hk => .inl (by simpa using hk.symm))
    have c2 : Ch p.own w1 w2 := hr.ch.mono fun k _ hk => hk.elim (fun e => .inr (.inl e)) (fun e => .inr (.inr e))
    exact c1.trans c2
end Go.Proofs.YthejboamnjcdfaaGreatDoor
