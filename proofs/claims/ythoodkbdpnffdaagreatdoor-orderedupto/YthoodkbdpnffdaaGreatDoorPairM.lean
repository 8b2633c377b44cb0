/-
  Own work: the program's store and the document's answer say the same behind Swap and Sift (plain mathematics).
-/
import Derived.Test.YthoodkbdpnffdaaGreatDoorRefT
import Derived.Test.YthoodkbdpnffdaaGreatDoorRefX
namespace Go.Proofs.YthoodkbdpnffdaaGreatDoor
open Cho (U64 Tab full col Nd Red Dg DgOk Odr)

/-- Moved by the document's words is moved. -/
theorem movedL_eq (l : List Nat) (f t : Nat) (hl : l.length ≤ 6) (hf : f < l.length) (ht : t < l.length) : Cho.mv l f t = movedL l f t := by
  refine Cho.six (P := fun l f t => Cho.mv l f t = movedL l f t) (fun _ => rfl) (fun _ _ => ⟨rfl, rfl, rfl, rfl⟩) ?_ ?_ ?_ ?_ l f t hl hf ht
  · intro a b c f t hf ht
    rcases (by omega : f = 0 ∨ f = 1 ∨ f = 2) with rfl | rfl | rfl <;> rcases (by omega : t = 0 ∨ t = 1 ∨ t = 2) with rfl | rfl | rfl <;> rfl
  · intro a b c d f t hf ht
    rcases (by omega : f = 0 ∨ f = 1 ∨ f = 2 ∨ f = 3) with rfl | rfl | rfl | rfl <;> rcases (by omega : t = 0 ∨ t = 1 ∨ t = 2 ∨ t = 3) with rfl | rfl | rfl | rfl <;> rfl
  · intro a b c d e f t hf ht
    rcases (by omega : f = 0 ∨ f = 1 ∨ f = 2 ∨ f = 3 ∨ f = 4) with rfl | rfl | rfl | rfl | rfl <;> rcases (by omega : t = 0 ∨ t = 1 ∨ t = 2 ∨ t = 3 ∨ t = 4) with rfl | rfl | rfl | rfl | rfl <;> rfl
  · intro a b c d e g f t hf ht
    rcases (by omega : f = 0 ∨ f = 1 ∨ f = 2 ∨ f = 3 ∨ f = 4 ∨ f = 5) with rfl | rfl | rfl | rfl | rfl | rfl <;> rcases (by omega : t = 0 ∨ t = 1 ∨ t = 2 ∨ t = 3 ∨ t = 4 ∨ t = 5) with rfl | rfl | rfl | rfl | rfl | rfl <;> rfl

section
variable {st : St} {r : RSt}
/-- How many nodes by an order. -/
theorem Sim.tog (h : Sim st r) {ord : List Nat} (o : Odr st.n ord) : r.tog ord = Cho.cnt' st.n st.dg.tabs ord := by
  unfold RSt.tog
  rw [h.n, ← h.tabs]
  exact (cnt_live h.inv h.cl o r.hs (fun a ha => (h.live a).2 ha) (fun a ha => (h.live a).1 ha)).symm
theorem sim_take (h : Sim st r) {d : Dg} (hs : Cho.Same st.n st.dg d) (hf : d.ns.length ≤ 4000) : Sim (st.take d) (r.by d.ord) := by
  have ht := taken h.inv h.cl hs
  have ho := hs.ok.o
  refine ⟨ht.inv, ht.cl, hf, by_ok h.ok (by rw [h.n, ho.len]) (fun v hv => by rw [h.n]; exact (ho.mem v).1 hv), h.n, h.room, h.given, rfl, fun a => ?_⟩
  have hg : (r.by d.ord).get a = r.get a := rfl
  rw [hg, ← h.get a]
  unfold St.get
  have e : (st.take d).slot a = st.slot a := rfl
  rw [e]
  split
  · rename_i hl; rw [ht.tab a hl]
  · rfl
/-- Swap, as the program does it. -/
def St.swap (st : St) (level : Int) : St × Nat :=
  if 0 ≤ level ∧ level ≤ (st.n : Int) - 2 then
    if (st.swp level.toNat).ns.length ≤ st.room then (st.swp level.toNat, 0) else (st, 4)
  else (st, 1)
theorem Sim.swap (h : Sim st r) (level : Int) : (st.swap level).2 = (r.swap level).2 ∧ Sim (st.swap level).1 (r.swap level).1 := by
  unfold St.swap RSt.swap
  rw [h.n]
  by_cases hl : 0 ≤ level ∧ level ≤ (st.n : Int) - 2
  · rw [if_pos hl, if_pos hl]
    have hk : level.toNat + 1 < st.n := by omega
    obtain ⟨hs, hf, ho⟩ := swp_same h.inv hk
    have e1 : swapL r.ord level.toNat = (st.dg.move level.toNat (level.toNat + 1)).ord := by
      rw [h.ord]; exact ho.symm
    have e2 : r.tog (swapL r.ord level.toNat) = (st.swp level.toNat).ns.length := by
      rw [e1, h.tog hs.ok.o]; exact hs.few.symm
    rw [e2, h.room]
    by_cases hr : (st.swp level.toNat).ns.length ≤ st.room
    · rw [if_pos hr, if_pos hr]
      refine ⟨rfl, ?_⟩
      show Sim (st.swp level.toNat) (r.by (swapL r.ord level.toNat))
      rw [e1]
      exact sim_take h hs (by have h1 : (st.dg.move level.toNat (level.toNat + 1)).ns.length ≤ 1890 := hf; omega)
    · rw [if_neg hr, if_neg hr]; exact ⟨rfl, h⟩
  · rw [if_neg hl, if_neg hl]; exact ⟨rfl, h⟩
theorem Sim.sift (h : Sim st r) : r.mayBy st.sifted.ord = true ∧ Sim st.sifted (r.by st.sifted.ord) := by
  obtain ⟨hs, h1, h2⟩ := Cho.sift_ok h.inv.dg
  have hfew : st.dg.sift.ns.length ≤ 4000 := by
    have hc := h.inv.dg.count h.cl.full
    have hf : st.dg.ns.length ≤ 4000 := h.few
    omega
  refine ⟨?_, sim_take h hs hfew⟩
  have e1 : r.tog st.sifted.ord = st.dg.sift.ns.length := (h.tog hs.ok.o).trans hs.few.symm
  have e2 : r.tog r.ord = Cho.cnt' st.n st.dg.tabs st.dg.ord := by rw [h.ord]; exact h.tog h.inv.odr
  unfold RSt.mayBy mayB
  rw [e1, e2]
  by_cases hlt : st.dg.sift.ns.length < Cho.cnt' st.n st.dg.tabs st.dg.ord
  · simp [hlt]
  · have heq : st.dg.sift.ns.length = Cho.cnt' st.n st.dg.tabs st.dg.ord := by omega
    have hb : r.better = false := by
      unfold RSt.better
      rw [decide_eq_false_iff_not]
      rintro ⟨i, hi, k, hk, hlt2⟩
      rw [h.n] at hi hk
      have hol : r.ord.length = st.n := by rw [h.ord]; exact h.inv.len
      rw [← movedL_eq r.ord i k (by rw [hol]; exact h.inv.n6) (by rw [hol]; exact hi) (by rw [hol]; exact hk), e2, h.ord, h.tog (h.inv.odr.mv hi hk)] at hlt2
      have := h2 i k hi hk
      have e3 : st.dg.ord = st.ord := rfl
      rw [e3] at this heq hlt2
      omega
    rw [hb]; simp [heq]
theorem swap_given (r : RSt) (level : Int) : (r.swap level).1.given = r.given := by
  unfold RSt.swap
  split
  · split <;> rfl
  · rfl
end
end Go.Proofs.YthoodkbdpnffdaaGreatDoor

/-
  Own work: a store of the program beside one of the document's answer: what keeps them as they are.
-/
namespace Go.Proofs.YthoodkbdpnffdaaGreatDoor
open Go.RowKit
open Cho (U64 Tab full col Nd Red)

/-- The program's store stays, where blocks of its kinds do. -/
theorem Has.ch {F : Nat → Prop} {w w' : World} {s : Nat} {st : St} (h : Has w s st) (hc : Ch F w w') (h0 : ¬ F 0) (hs : ¬ F s)
    (hF : ∀ k c T, w.heap[k]? = some (.cells c T (0, 0)) → T = 3 ∨ T = 153 → ¬ F k) : Has w' s st := by
  refine ⟨?_, h.inv, h.few⟩
  obtain ⟨hp, ⟨go, capo, nv, B', hb, ho, ⟨cur, hcur⟩, hcap, hrow⟩, h1, h2, h3, h4, h5, h6, h7, hcol⟩ := h.lies
  have kgo : w'.heap[go]? = w.heap[go]? := hc.block go (lt_of_block hcur) (hF go _ _ hcur (.inl rfl))
  refine ⟨hp, ⟨go, capo, nv, B', (hc.block s (lt_of_block hb) hs).trans hb, ?_, ⟨cur, kgo.trans hcur⟩, hcap, ?_⟩, h1, h2, h3, h4, h5, h6, h7, ?_⟩
  · exact fun i hi => (World.cell?_of_block (a := ⟨go, i, none⟩) kgo).trans (ho i hi)
  · refine owns_kept hrow fun g hgb => ?_
    obtain ⟨_, ⟨rfl, _⟩ | ⟨g', cap, cu, rfl, _, hg2, _⟩⟩ := hrow
    · simp [Value.ownBlock] at hgb
    · obtain rfl : g' = g := by simpa [Value.ownBlock] using hgb
      exact hc.block g' (lt_of_block hg2) (hF g' _ _ hg2 (.inr rfl))
  · exact fun i hi => (World.cell?_of_block (a := ⟨0, i, none⟩) (hc.block 0 (cols_pos hcol) h0)).trans (hcol i hi)
/-- The document's store stays. -/
theorem RefAt.ch {F : Nat → Prop} {B : Nat} {w w' : World} {y : Nat} {r : RSt} {rv ov : Value} (h : RefAt B w y r rv ov) (hc : Ch F w w') (hy : ¬ F y) (hr : ∀ g, rv.ownBlock = some g → ¬ F g) (ho : ∀ g, ov.ownBlock = some g → ¬ F g) : RefAt B w' y r rv ov :=
  ⟨(hc.block y (lt_of_block h.block) hy).trans h.block, owns_kept h.row fun g hg => hc.block g (h.row.lt g hg).2 (hr g hg), owns_kept h.ords fun g hg => hc.block g (h.ords.lt g hg).2 (ho g hg), h.ok, h.lo⟩
theorem owns_kind {w : World} {B : Nat} {e : TypeId} {sz : Nat} {v : Value} {n : Nat} {xs : List Value} (h : w.ownsRow B e sz v n xs) {g : Nat} (hg : v.ownBlock = some g) : ∃ c, w.heap[g]? = some (.cells c e (0, 0)) := by
  obtain ⟨_, ⟨rfl, _⟩ | ⟨g', cap, cu, rfl, _, hg2, _⟩⟩ := h
  · simp [Value.ownBlock] at hg
  · obtain rfl : g' = g := by simpa [Value.ownBlock] using hg
    exact ⟨cu, hg2⟩
theorem kind_ne {w : World} {a b : Nat} {c d : Array Value} {T U : TypeId} (ha : w.heap[a]? = some (.cells c T (0, 0))) (hb : w.heap[b]? = some (.cells d U (0, 0))) (h : T ≠ U) : a ≠ b := by
  intro e; subst e
  rw [ha] at hb
  simp at hb
  exact h hb.2

/-- A store of the program in block x, one of the document's answer in block y. -/
structure Pr where
  x : Nat
  y : Nat
  st : St
  r : RSt
  rv : Value
  ov : Value
structure PairOk (B : Nat) (w : World) (p : Pr) : Prop where
  has : Has w p.x p.st
  ref : RefAt B w p.y p.r p.rv p.ov
  sim : Sim p.st p.r
  lo : B ≤ p.x
  pos : 0 < B
theorem PairOk.blk {B : Nat} {w : World} {p : Pr} (h : PairOk B w p) : ∃ c, w.heap[p.x]? = some (.cells c 62 (0, 0)) := by
  obtain ⟨_, _, _, _, hb, _⟩ := h.has.lies.ex; exact ⟨_, hb⟩
/-- The blocks that calls on the pair may change. -/
def Pr.own (p : Pr) (k : Nat) : Prop := k = p.x ∨ k = p.y ∨ p.rv.ownBlock = some k
theorem PairOk.below {B : Nat} {w w' : World} {p : Pr} (h : PairOk B w p) (hb : Below w.heap.size w w') : PairOk B w' p := ⟨h.has.below hb, h.ref.below hb, h.sim, h.lo, h.pos⟩
/-- What a step on the pair leaves. -/
structure PStep (B : Nat) (w w' : World) (p p' : Pr) : Prop where
  ok : PairOk B w' p'
  x : p'.x = p.x
  y : p'.y = p.y
  rv : ∀ g, p'.rv.ownBlock = some g → p.rv.ownBlock = some g ∨ w.heap.size ≤ g
  ch : Ch p.own w w'
  given : p'.r.given ≤ p.r.given + 1
theorem PStep.same {B : Nat} {w w' : World} {p : Pr} (h : PairOk B w p) (hb : Below w.heap.size w w') : PStep B w w' p p :=
  ⟨h.below hb, rfl, rfl, fun _ hg => .inl hg, Ch.of_below hb, Nat.le_succ _⟩
/-- The document's store beside a call on the program's. -/
theorem ref_beside {B : Nat} {w w1 : World} {p : Pr} (h : PairOk B w p) {st' : St} (hc : CStep w w1 p.x st') : RefAt B w1 p.y p.r p.rv p.ov := by
  obtain ⟨cx, hx⟩ := h.blk
  have hch : Ch (fun k => k = p.x) w w1 := Ch.of_grown hc.gr (fun k hk => by simpa using hk.symm)
  refine h.ref.ch hch (fun e => ?_) (fun g hg e => ?_) (fun g hg e => ?_)
  · exact kind_ne h.ref.block hx (by decide) e
  · obtain ⟨c, hcg⟩ := owns_kind h.ref.row hg
    exact kind_ne hcg hx (by decide) e
  · obtain ⟨c, hcg⟩ := owns_kind h.ref.ords hg
    exact kind_ne hcg hx (by decide) e
/-- A call on the program's store, then one on the document's. -/
theorem pair_step {B : Nat} {w w1 w2 : World} {p : Pr} {st' : St} {r' : RSt} (h : PairOk B w p) (hc : CStep w w1 p.x st') (hr : RStep B w1 w2 p.y p.rv p.ov r') (hs : Sim st' r') (hg : r'.given ≤ p.r.given + 1) :
    ∃ p', PStep B w w2 p p' := by
  obtain ⟨rv', h1, h2⟩ := hr.ex
  have href := ref_beside h hc
  obtain ⟨_, _, _, _, hbx, _⟩ := hc.has.lies.ex
  have hpos := h.pos
  have hx0 : ∀ k, k = p.y ∨ p.rv.ownBlock = some k → ∃ c T, w1.heap[k]? = some (.cells c T (0, 0)) ∧ (T = 65 ∨ T = 115) ∧ B ≤ k := by
    rintro k (rfl | hk)
    · exact ⟨_, _, href.block, .inl rfl, href.lo⟩
    · obtain ⟨c, hcg⟩ := owns_kind href.row hk
      exact ⟨c, _, hcg, .inr rfl, (href.row.lt k hk).1⟩
  have hhas : Has w2 p.x st' := by
    refine hc.has.ch hr.ch (fun hk => ?_) (fun hk => ?_) (fun k c T hk hT hF => ?_)
    · obtain ⟨_, _, _, _, hB⟩ := hx0 0 hk; omega
    · obtain ⟨c, T, hk1, hT, _⟩ := hx0 _ hk
      rcases hT with rfl | rfl
      · exact kind_ne hk1 hbx (by decide) rfl
      · exact kind_ne hk1 hbx (by decide) rfl
    · obtain ⟨c', T', hk1, hT', _⟩ := hx0 k hF
      rcases hT with rfl | rfl <;> rcases hT' with rfl | rfl <;> exact kind_ne hk1 hk (by decide) rfl
  refine ⟨{ p with st := st', r := r', rv := rv' }, ⟨hhas, h1, hs, h.lo, h.pos⟩, rfl, rfl, ?_, ?_, hg⟩
  · intro g hg'
    rcases h2 g hg' with e | e
    · exact .inl e
    · exact .inr (Nat.le_trans hc.gr.size e)
  · have c1 : Ch p.own w w1 := Ch.of_grown hc.gr (fun k hk => .inl (by simpa using hk.symm))
    have c2 : Ch p.own w1 w2 := hr.ch.mono fun k _ hk => hk.elim (fun e => .inr (.inl e)) (fun e => .inr (.inr e))
    exact c1.trans c2
/-- The same, where the document's call may change the order. -/
theorem pair_stepO {B : Nat} {w w1 w2 : World} {p : Pr} {st' : St} {r' : RSt} (h : PairOk B w p) (hc : CStep w w1 p.x st') (hr : RStepO B w1 w2 p.y p.rv p.ov r') (hs : Sim st' r') (hg : r'.given ≤ p.r.given + 1) :
    ∃ p', PStep B w w2 p p' := by
  obtain ⟨ov', h1, h2⟩ := hr.ex
  have href := ref_beside h hc
  obtain ⟨_, _, _, _, hbx, _⟩ := hc.has.lies.ex
  have hpos := h.pos
  have hhas : Has w2 p.x st' := by
    refine hc.has.ch hr.ch (fun hk => ?_) (fun hk => ?_) (fun k c T hk hT hF => ?_)
    · have := href.lo; omega
    · exact kind_ne href.block hbx (by decide) hk.symm
    · rcases hT with rfl | rfl <;> exact kind_ne href.block hk (by decide) hF.symm
  refine ⟨{ p with st := st', r := r', ov := ov' }, ⟨hhas, h1, hs, h.lo, h.pos⟩, rfl, rfl, fun g hg' => .inl hg', ?_, hg⟩
  have c1 : Ch p.own w w1 := Ch.of_grown hc.gr (fun k hk => .inl (by simpa using hk.symm))
  have c2 : Ch p.own w1 w2 := hr.ch.mono fun k _ hk => .inr (.inl hk)
  exact c1.trans c2
end Go.Proofs.YthoodkbdpnffdaaGreatDoor
