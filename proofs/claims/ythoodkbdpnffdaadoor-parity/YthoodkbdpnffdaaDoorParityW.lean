/-
  Own work: 'Parity' answers true, whatever its arguments (a walk over the contracts of the calls).
-/
import Derived.Test.YthoodkbdpnffdaaDoorSwappedW
import Derived.Test.YthoodkbdpnffdaaDoorFewM
namespace Go.Proofs.YthoodkbdpnffdaaDoor
open Go.RowKit
open Cho (U64 Tab full col Nd Red Dg DgOk)

/-- A store of which the live functions are known. -/
structure Fv (w0 w : World) (s n : Nat) (st : St) (qs : List (Nat × Nat)) : Prop where
  hv : Hv w0.heap.size w0 w s st
  fw : Fw n st qs
theorem Fv.below {w0 w w' : World} {s n : Nat} {st : St} {qs : List (Nat × Nat)} (h : Fv w0 w s n st qs) (hb : Below w.heap.size w w') : Fv w0 w' s n st qs := ⟨h.hv.below hb, h.fw⟩
theorem fv_step {w0 w w' : World} {s n : Nat} {st st' : St} {qs qs' : List (Nat × Nat)} (h : Fv w0 w s n st qs) (h' : Has w' s st') (f' : Fw n st' qs') (hg : w.grownBy w' (some s)) : Fv w0 w' s n st' qs' := ⟨⟨h.hv.lo, h.hv.grown hg, h', f'.cl⟩, f'⟩
theorem fv_var {w0 w : World} {s n i : Nat} {st : St} {qs : List (Nat × Nat)} (h : Fv w0 w s n st qs) (hi : i < n) (hq : qs.length ≤ 10) (hg : st.given ≤ 1000) :
    Calls Tryd.prog 25 #[.pointer (some ⟨s, 0, none⟩), .int .i64 i] w fun e w' => e = .returned (.tuple #[.int .u32 (st.given + 1 : Nat), .int .i64 0]) ∧ Fv w0 w' s n (st.added (col i &&& full n)) (qs ++ [(st.given + 1, col i &&& full n)]) ∧ w.grownBy w' (some s) := by
  have hn := h.fw.n'
  have h6 := h.fw.inv.n6
  have ht : Tab n (col i &&& full n) := by rw [← Cho.bld_var (by omega) hi]; exact Cho.bld_tab _ _
  have := var_ok s i st w h.hv.has (by omega) (h.fw.free (by omega)) (by rw [hn]; exact h.fw.fits hq ht) (by omega)
  rw [hn] at this
  refine this.mono ?_
  rintro e w' ⟨rfl, h', hg'⟩
  exact ⟨rfl, fv_step h h' (h.fw.added hq ht) hg', hg'⟩
theorem fv_apply {w0 w : World} {s n c a b f g : Nat} {st : St} {qs : List (Nat × Nat)} (h : Fv w0 w s n st qs) (hc : c < 16) (ha : (a, f) ∈ qs) (hb : (b, g) ∈ qs) (hq : qs.length ≤ 10) (hg : st.given ≤ 1000) :
    Calls Tryd.prog 17 #[.pointer (some ⟨s, 0, none⟩), .int .i64 c, .int .u32 a, .int .u32 b] w fun e w' => e = .returned (.tuple #[.int .u32 (st.given + 1 : Nat), .int .i64 0]) ∧ Fv w0 w' s n (st.added (Cho.joinT c f g (full n))) (qs ++ [(st.given + 1, Cho.joinT c f g (full n))]) ∧ w.grownBy w' (some s) := by
  have hn := h.fw.n'
  have la := (h.fw.live a).2 (List.mem_map_of_mem ha)
  have lb := (h.fw.live b).2 (List.mem_map_of_mem hb)
  have ea : st.tab a = f := h.fw.tab (a, f) ha
  have eb : st.tab b = g := h.fw.tab (b, g) hb
  have tf : Tab n f := by rw [← ea, ← hn]; exact tab_tab st a
  have tg : Tab n g := by rw [← eb, ← hn]; exact tab_tab st b
  have ht := Cho.joinT_tab c f g n tf tg
  have := apply_ok s c a b st w h.hv.has hc la lb (h.fw.free (by omega)) (by rw [ea, eb, hn]; exact h.fw.fits hq ht) (by omega)
  rw [ea, eb, hn] at this
  refine this.mono ?_
  rintro e w' ⟨rfl, h', hg'⟩
  exact ⟨rfl, fv_step h h' (h.fw.added hq ht) hg', hg'⟩
theorem fv_release {w0 w : World} {s n a : Nat} {st : St} {qs : List (Nat × Nat)} (h : Fv w0 w s n st qs) (ha : a ∈ qs.map (·.1)) :
    Calls Tryd.prog 28 #[.pointer (some ⟨s, 0, none⟩), .int .u32 a] w fun e w' => e = .returned (.int .i64 0) ∧ Fv w0 w' s n (st.released a) (qs.filter (fun p => p.1 != a)) ∧ w.grownBy w' (some s) := by
  have hl := (h.fw.live a).2 ha
  refine (release_walk s a st w h.hv.has hl).mono ?_
  rintro e w' ⟨rfl, h', hg⟩
  have hf := freed h.fw.inv h.fw.cl hl
  exact ⟨rfl, fv_step h ⟨h', hf.inv, Nat.le_trans hf.len h.hv.has.few⟩ (h.fw.freed ha) hg, hg⟩
theorem lv_range (k : Nat) : lv (List.range k) ++ [.int .i64 (k : Int)] = lv (List.range (k + 1)) := by simp [lv, List.range_succ]

/-- One number appended onto a row of the call's own: what lies in the row's block is as it was, but for the new one. -/
theorem run_append_cells {P : Program} (w : World) (base : Nat) (t ty e : TypeId) (i : TypeInfo) (z : Value) (bytes : Nat) (ht : P.underlying t = some (.slice e)) (hi : P.info? e = some i) (hz : i.zero = some z)
    (hsize : i.size = 1) (hby : i.bytes = bytes) (hzs : z.cells.size = 1)
    (v : Value) (n : Nat) (xs : List Value) (hown : w.ownsRow base e 1 v n xs)
    (a : Addr) (c : Nat) (x : Value) (hnews : ∀ j u, [x][j]? = some u → w.cell? (a.add j) = some u) (h1 : x.oneCell' = true)
    (h63 : n + 1 ≤ maxLen) (hbytes : (n + 1) * bytes ≤ 140737488355328) (hbase : base ≤ w.heap.size) :
    ∃ v' w', (Builtin.append_ #[t, t] ty #[v, .slice (some a) 1 c]).run P w = .ok v' w' ∧ w'.ownsRow base e 1 v' (n + 1) (xs ++ [x]) ∧ w.grownBy w' v.ownBlock ∧
      (∀ g, v.ownBlock = some g → (∃ cur, w'.heap[g]? = some (.cells cur e (0, 0))) ∧ ∀ j u, w.cell? ⟨g, j, none⟩ = some u → (j = n → u = x) → w'.cell? ⟨g, j, none⟩ = some u) := by
  rcases hown.2 with ⟨rfl, rfl⟩ | ⟨g, cap, cur, rfl, hbg, hg, hnc, hcm, hcs, htake⟩
  · obtain ⟨v', w', h1', h2, h3, _⟩ := run_append_own (P := P) w base t ty e i z 1 bytes ht hi hz hsize hby hzs (by omega) _ 0 xs hown a 1 c [x] rfl hnews (by simpa using h1) h63 hbytes hbase
    exact ⟨v', w', h1', h2, h3, fun g hg => by simp [Value.ownBlock] at hg⟩
  · by_cases hroom : n + 1 ≤ cap
    · have hfit : n * i.size + [x].length ≤ cur.size := by rw [hsize, hcs]; simp; omega
      have hr := run_append_room (P := P) w t ty e i ht hi g n cap cur hg a 1 c [x] (by rw [hsize]; rfl) hnews (by simpa using h1) hroom hfit
      obtain ⟨v', w', hr', h2, h3, _⟩ := run_append_own (P := P) w base t ty e i z 1 bytes ht hi hz hsize hby hzs (by omega) _ n xs hown a 1 c [x] rfl hnews (by simpa using h1) h63 hbytes hbase
      refine ⟨v', w', hr', h2, h3, ?_⟩
      rw [hr] at hr'
      injection hr' with e1 e2
      subst e1 e2
      intro g' hg'
      obtain rfl : g = g' := by simpa [Value.ownBlock] using hg'
      have hnew := setRow_heap w g cur (cur.toList.take (n * i.size) ++ [x] ++ cur.toList.drop (n * i.size + [x].length)).toArray e (0, 0) hg
      refine ⟨⟨_, hnew⟩, fun j u hu hx => ?_⟩
      rw [cell_of_block hnew]
      rw [cell_of_block hg] at hu
      rw [hsize, Nat.mul_one, List.getElem?_toArray, List.append_assoc, List.getElem?_append, List.length_take]
      have hcl : cur.toList.length = cap := by simpa using hcs
      rw [hcl, Nat.min_eq_left hnc]
      split
      · rename_i hj
        rw [List.getElem?_take, if_pos hj]; simpa using hu
      · rename_i hj
        by_cases e : j = n
        · subst e; rw [hx rfl]; simp
        · rw [List.getElem?_append_right (by simp; omega), List.getElem?_drop]
          simp only [List.length_cons, List.length_nil]
          rw [show n + (0 + 1) + (j - n - (0 + 1)) = j from by omega]
          simpa using hu
    · obtain ⟨v', w', hr', h2, h3, _⟩ := run_append_own (P := P) w base t ty e i z 1 bytes ht hi hz hsize hby hzs (by omega) _ n xs hown a 1 c [x] rfl hnews (by simpa using h1) h63 hbytes hbase
      have holds : ∀ j u, xs[j]? = some u → w.cell? ((⟨g, 0, none⟩ : Addr).add j) = some u := hown.cells (g := g) rfl
      have hr := run_append_grow (P := P) w t ty e i z ht hi hz ⟨g, 0, none⟩ n cap xs (by rw [hsize]; exact hown.1) holds a 1 c [x] (by rw [hsize]; rfl) hnews (by omega) (by simp only [maxLen] at h63; omega) (growslice_fits (by omega) (by rw [hby]; exact hbytes))
      refine ⟨v', w', hr', h2, h3, ?_⟩
      rw [hr] at hr'
      injection hr' with e1 e2
      subst e1 e2
      intro g' hg'
      obtain rfl : g = g' := by simpa [Value.ownBlock] using hg'
      have hold := heap_alloc_old w.drew (.cells (xs.toArray ++ [x].toArray ++ Builtin.zeroCells z.cells (grownCap w (n + 1) cap e - (n + 1))) e) (lt_of_block hg)
      refine ⟨⟨cur, hold.trans hg⟩, fun j u hu _ => ?_⟩
      exact (World.cell?_of_block (a := ⟨g, j, none⟩) hold).trans hu
theorem wpList_append_cells {P : Program} {w : World} {ops : Array Oper} {rest : List Oper} {o : Oper} {a : Act} {Q : Exit → Act → World → Prop} (hgd : o.guard = none) (s x : Operand) (t : TypeId)
    (ho : o.op = .call { callee := .builtin .append, args := #[s, x], argTypes := #[t, t] })
    (base : Nat) (e : TypeId) (i : TypeInfo) (z : Value) (bytes : Nat) (ht : P.underlying t = some (.slice e)) (hi : P.info? e = some i) (hz : i.zero = some z)
    (hsize : i.size = 1) (hby : i.bytes = bytes) (hzs : z.cells.size = 1)
    (v : Value) (n : Nat) (xs : List Value) (hs : a.eval s = v) (hown : w.ownsRow base e 1 v n xs)
    (ad : Addr) (c : Nat) (y : Value) (hx : a.eval x = .slice (some ad) 1 c) (hnews : ∀ j u, [y][j]? = some u → w.cell? (ad.add j) = some u) (h1 : y.oneCell' = true)
    (h63 : n + 1 ≤ maxLen) (hbytes : (n + 1) * bytes ≤ 140737488355328) (hbase : base ≤ w.heap.size)
    (h : ∀ v' w', w'.ownsRow base e 1 v' (n + 1) (xs ++ [y]) → w.grownBy w' v.ownBlock → (∀ g, v.ownBlock = some g → (∃ cur, w'.heap[g]? = some (.cells cur e (0, 0))) ∧ ∀ j u, w.cell? ⟨g, j, none⟩ = some u → (j = n → u = y) → w'.cell? ⟨g, j, none⟩ = some u) → wpList P ops Q rest (a.put o.dst v') w') :
    wpList P ops Q (o :: rest) a w := by
  refine wpList_plain hgd fun K hK => ?_
  obtain ⟨v', w', hr, h2, h3, h4⟩ := run_append_cells (P := P) w base t o.type e i z bytes ht hi hz hsize hby hzs v n xs hown ad c y hnews h1 h63 hbytes hbase
  unfold Oper.wp execOp
  simp only [ho, resolve, invoke, builtin, Sem.run_bind, Sem.run_pure, Result.andThen_ok, List.map_toArray, List.map_cons, List.map_nil, hs, hx, hr]
  exact hK _ _ (h v' w' h2 h3 h4)
/-- A store stays where a row of numbers is written: were it the store's own order, that still stands in it. -/
theorem StoreAt.over {w w' : World} {s : Nat} {g : Option Nat} {st : St} (h : StoreAt w s st) (hg : w.grownBy w' g) (hk : ∀ b, g = some b → 0 < b ∧ (∃ c, w.heap[b]? = some (.cells c 3 (0, 0))) ∧ (∃ c, w'.heap[b]? = some (.cells c 3 (0, 0))) ∧
      ((∀ j (hj : j < st.ord.length), w.cell? ⟨b, j, none⟩ = some (.int .i64 (st.ord[j] : Nat))) → ∀ j (hj : j < st.ord.length), w'.cell? ⟨b, j, none⟩ = some (.int .i64 (st.ord[j] : Nat)))) : StoreAt w' s st := by
  obtain ⟨hp, ⟨go, capo, nv, B, hb, ho, ⟨cur, hcur⟩, hcap, hr⟩, h1, h2, h3, h4, h5, h6, h7, hc⟩ := h
  have kept : ∀ (k : Nat) (c : Array Value) (T : TypeId), w.heap[k]? = some (.cells c T (0, 0)) → T ≠ 3 → w'.heap[k]? = w.heap[k]? := by
    intro k c T hkb hT
    refine hg.block k (lt_of_block hkb) ?_
    intro e
    obtain ⟨_, ⟨c', hc'⟩, _⟩ := hk k e.symm
    rw [hkb] at hc'; simp at hc'; exact hT hc'.2
  refine ⟨hp, ⟨go, capo, nv, B, (kept s _ _ hb (by decide)).trans hb, ?_, ?_, hcap, ?_⟩, h1, h2, h3, h4, h5, h6, h7, hc.grown hg (fun e => by have := (hk 0 e.symm).1; omega)⟩
  · by_cases e : some go = g
    · exact (hk go e.symm).2.2.2 ho
    · exact fun i hi => (World.cell?_of_block (a := ⟨go, i, none⟩) (hg.block go (lt_of_block hcur) e)).trans (ho i hi)
  · by_cases e : some go = g
    · exact (hk go e.symm).2.2.1
    · exact ⟨cur, (hg.block go (lt_of_block hcur) e).trans hcur⟩
  · refine owns_kept hr fun k hkb => ?_
    obtain ⟨c, hc'⟩ := row_kind hr hkb
    exact kept k c _ hc' (by decide)
theorem Hv.over {B : Nat} {w0 w w' : World} {s : Nat} {g : Option Nat} {st : St} (h : Hv B w0 w s st) (hB : 0 < B) (hg : w.grownBy w' g) (hk : ∀ b, g = some b → B ≤ b ∧ (∃ c, w.heap[b]? = some (.cells c 3 (0, 0))) ∧ (∃ c, w'.heap[b]? = some (.cells c 3 (0, 0))) ∧
      ((∀ j (hj : j < st.ord.length), w.cell? ⟨b, j, none⟩ = some (.int .i64 (st.ord[j] : Nat))) → ∀ j (hj : j < st.ord.length), w'.cell? ⟨b, j, none⟩ = some (.int .i64 (st.ord[j] : Nat)))) : Hv B w0 w' s st :=
  ⟨h.lo, h.bel.grown hg h.size (fun k e => (hk k e).1), ⟨h.has.lies.over hg (fun b e => ⟨by have := (hk b e).1; omega, (hk b e).2⟩), h.has.inv, h.has.few⟩, h.cl⟩

/-- While the two functions grow. -/
structure Pa (w0 w : World) (s n i ho ha : Nat) (st : St) : Prop where
  fv : Fv w0 w s n st [(ho, Cho.xorT n (List.range (max i 1)) false), (ha, Cho.allT n (List.range (max i 1)))]
  ne : ho ≠ ha
  given : st.given ≤ 2 + 3 * i

theorem pa0 {w0 w : World} {s n : Nat} (hn6 : n ≤ 6) (hn1 : 1 ≤ n) (f4 : Fv w0 w s n (((St.empty n 4000).added (col 0 &&& full n)).added (col 0 &&& full n)) [(1, col 0 &&& full n), (2, col 0 &&& full n)]) : Pa w0 w s n 0 1 2 (((St.empty n 4000).added (col 0 &&& full n)).added (col 0 &&& full n)) := by
  have e1 := xor_one hn6 hn1
  have e2 := all_one hn6 hn1
  have h := f4.fw
  refine ⟨⟨f4.hv, ⟨h.n', h.room, h.inv, h.cl, h.live, fun p hp => ?_⟩, h.ord⟩, by omega, by simp [St.added, St.empty]⟩
  rcases List.mem_cons.1 hp with rfl | hp
  · show _ = Cho.xorT n (List.range 1) false
    exact (h.tab (1, col 0 &&& full n) (by simp)).trans e1
  · rcases List.mem_cons.1 hp with rfl | hp
    · show _ = Cho.allT n (List.range 1)
      exact (h.tab (2, col 0 &&& full n) (by simp)).trans e2
    · simp at hp
/-- One round of it. -/
theorem pa_next {w0 w : World} {s n i hx ho' ha' ho ha : Nat} {st : St} (hn6 : n ≤ 6) (hi1 : 1 ≤ i) (hi : i < n) (ne : ho ≠ ha) (l1 : ho < hx) (l2 : ha < hx) (l3 : hx < ho') (l4 : ho' < ha') (hg : st.given ≤ 2 + 3 * (i + 1))
    (f : Fv w0 w s n st ((((([(ho, Cho.xorT n (List.range i) false), (ha, Cho.allT n (List.range i))] ++ [(hx, col i &&& full n)]) ++ [(ho', Cho.joinT 6 (Cho.xorT n (List.range i) false) (col i &&& full n) (full n))]).filter (fun p => p.1 != ho) ++ [(ha', Cho.joinT 8 (Cho.allT n (List.range i)) (col i &&& full n) (full n))]).filter (fun p => p.1 != ha)).filter (fun p => p.1 != hx))) :
    Pa w0 w s n (i + 1) ho' ha' st := by
  have e : ((((([(ho, Cho.xorT n (List.range i) false), (ha, Cho.allT n (List.range i))] ++ [(hx, col i &&& full n)]) ++ [(ho', Cho.joinT 6 (Cho.xorT n (List.range i) false) (col i &&& full n) (full n))]).filter (fun p => p.1 != ho) ++ [(ha', Cho.joinT 8 (Cho.allT n (List.range i)) (col i &&& full n) (full n))]).filter (fun p => p.1 != ha)).filter (fun p => p.1 != hx)) =
      [(ho', Cho.xorT n (List.range (i + 1)) false), (ha', Cho.allT n (List.range (i + 1)))] := by
    rw [xor_more hn6 hi, all_more hn6 hi]
    have a1 : (ha != ho) = true := by simp; omega
    have a2 : (hx != ho) = true := by simp; omega
    have a3 : (ho' != ho) = true := by simp; omega
    have a4 : (hx != ha) = true := by simp; omega
    have a5 : (ho' != ha) = true := by simp; omega
    have a6 : (ha' != ha) = true := by simp; omega
    have a7 : (ho' != hx) = true := by simp; omega
    have a8 : (ha' != hx) = true := by simp; omega
    simp [a1, a2, a3, a4, a5, a6, a7, a8]
  rw [e] at f
  have em : max (i + 1) 1 = i + 1 := by omega
  refine ⟨?_, by omega, hg⟩
  rw [em]; exact f

theorem pa_append {w0 W w5 : World} {s n i ho ha : Nat} {st : St} {v : Value} {xs : List Value} (h : Pa w0 W s n i ho ha st) (hpos : 0 < w0.heap.size) (hr : W.ownsRow w0.heap.size 3 1 v i xs) (hg : W.grownBy w5 v.ownBlock)
    (hcl : ∀ g, v.ownBlock = some g → (∃ cur, w5.heap[g]? = some (.cells cur 3 (0, 0))) ∧ ∀ j u, W.cell? ⟨g, j, none⟩ = some u → (j = i → u = .int .i64 (i : Nat)) → w5.cell? ⟨g, j, none⟩ = some u) : Pa w0 w5 s n i ho ha st := by
  refine ⟨⟨h.fv.hv.over hpos hg (fun b hb => ⟨(hr.lt b hb).1, row_kind hr hb, (hcl b hb).1, fun ho j hj => ?_⟩), h.fv.fw⟩, h.ne, h.given⟩
  refine (hcl b hb).2 j _ (ho j hj) (fun e => ?_)
  subst e
  have := h.fv.fw.ord
  simp only [this, List.getElem_range]
theorem fv_var' {w0 w : World} {s n i g : Nat} {st : St} {qs : List (Nat × Nat)} (h : Fv w0 w s n st qs) (hi : i < n) (hq : qs.length ≤ 10) (hgv : st.given = g) (hg : g ≤ 1000) :
    Calls Tryd.prog 25 #[.pointer (some ⟨s, 0, none⟩), .int .i64 i] w fun e w' => e = .returned (.tuple #[.int .u32 (g + 1 : Nat), .int .i64 0]) ∧ ∃ st', Fv w0 w' s n st' (qs ++ [(g + 1, col i &&& full n)]) ∧ st'.given = g + 1 ∧ w.grownBy w' (some s) := by
  subst hgv
  refine (fv_var h hi hq hg).mono ?_
  rintro e w' ⟨rfl, h1, h2⟩
  exact ⟨rfl, _, h1, rfl, h2⟩
theorem fv_apply' {w0 w : World} {s n c a b f g gv : Nat} {st : St} {qs : List (Nat × Nat)} (h : Fv w0 w s n st qs) (hc : c < 16) (ha : (a, f) ∈ qs) (hb : (b, g) ∈ qs) (hq : qs.length ≤ 10) (hgv : st.given = gv) (hg : gv ≤ 1000) :
    Calls Tryd.prog 17 #[.pointer (some ⟨s, 0, none⟩), .int .i64 c, .int .u32 a, .int .u32 b] w fun e w' => e = .returned (.tuple #[.int .u32 (gv + 1 : Nat), .int .i64 0]) ∧ ∃ st', Fv w0 w' s n st' (qs ++ [(gv + 1, Cho.joinT c f g (full n))]) ∧ st'.given = gv + 1 ∧ w.grownBy w' (some s) := by
  subst hgv
  refine (fv_apply h hc ha hb hq hg).mono ?_
  rintro e w' ⟨rfl, h1, h2⟩
  exact ⟨rfl, _, h1, rfl, h2⟩
theorem fv_release' {w0 w : World} {s n a gv : Nat} {st : St} {qs : List (Nat × Nat)} (h : Fv w0 w s n st qs) (ha : a ∈ qs.map (·.1)) (hgv : st.given = gv) :
    Calls Tryd.prog 28 #[.pointer (some ⟨s, 0, none⟩), .int .u32 a] w fun e w' => e = .returned (.int .i64 0) ∧ ∃ st', Fv w0 w' s n st' (qs.filter (fun p => p.1 != a)) ∧ st'.given = gv ∧ w.grownBy w' (some s) := by
  subst hgv
  refine (fv_release h ha).mono ?_
  rintro e w' ⟨rfl, h1, h2⟩
  exact ⟨rfl, _, h1, rfl, h2⟩
/-- What is known of the store when all is made, and behind the swaps. -/
structure Pz (n ho ha : Nat) (st : St) (ord : List Nat) : Prop where
  inv : Inv st
  cl : Clean st
  n' : st.n = n
  ord' : st.ord = ord
  lo : st.live ho
  la : st.live ha
  so : st.size ho = 2 * n - 1
  sa : st.size ha = n
theorem pz_of {w0 w : World} {s n ho ha : Nat} {st : St} (h : Pa w0 w s n n ho ha st) (l : List Int) : Pz n ho ha (st.swps (lvls n l)) ((lvls n l).foldl Cho.swp (List.range n)) := by
  have f := h.fv.fw
  have hn := f.n'
  subst hn
  have h1 := f.inv.n1
  have em : max st.n 1 = st.n := by omega
  obtain ⟨d, hs, e1, e2⟩ := swps_same f.inv f.cl (lvls st.n l) lvls_lt
  have ht := taken f.inv f.cl hs
  have lo : st.live ho := (f.live ho).2 (by simp)
  have la : st.live ha := (f.live ha).2 (by simp)
  have to := f.tab (ho, Cho.xorT st.n (List.range (max st.n 1)) false) (by simp)
  have ta := f.tab (ha, Cho.allT st.n (List.range (max st.n 1))) (by simp)
  simp only [em] at to ta
  rw [f.ord] at e2
  rw [e1]
  refine ⟨ht.inv, ht.cl, rfl, e2, lo, la, ?_, ?_⟩
  · exact odd_size ht.inv (a := ho) lo ((ht.tab ho lo).trans to)
  · exact all_size ht.inv (a := ha) la ((ht.tab ha la).trans ta)

set_option maxRecDepth 100000 in
set_option maxHeartbeats 4000000 in
theorem parity_walk (raw : Int) (cap : Nat) (ao : Option Addr) (l : List Int) (w : World) (hc : Cols w) (hl : SlI w ao l) (h1 : -9223372036854775808 ≤ raw) (h2 : raw ≤ 9223372036854775807) :
    Calls Tryd.prog 8 #[.int .i64 raw, .slice ao l.length cap] w fun e w' => e = .returned (.bool true) ∧ Below w.heap.size w w' := by
  obtain ⟨i0, hi0, hz0, hz1, hz2⟩ := info_parts Tryd.infoInt
  have HL : Hid (SlI w ao l) := hl
  have HC : Hid (Cols w) := hc
  have hll := hl.len
  have hpos := cols_pos hc
  clear hl hc
  go_enter Tryd.func8, Tryd.ntmps8
  go_wp2_with fail
  refine (vars_calls raw _ h1 h2).mono ?_
  rintro e w1 ⟨⟨n, hn1, hn6, rfl⟩, rfl⟩
  go_wp2_with fail
  refine (store_calls n _ hn1 hn6 HC.out).mono ?_
  rintro e w2 ⟨s, rfl, hst, hs, hb2⟩
  have F2 : Hid (Fv w1 w2 s n (St.empty n 4000) []) := ⟨⟨hs, hb2, hst, clean_empty n 4000⟩, fw_empty n hn1 hn6⟩
  clear hst hb2 HC
  go_wp2_with fail
  refine (fv_var (i := 0) F2.out (by omega) (by simp) (by simp [St.empty])).mono ?_
  rintro e w3 ⟨rfl, f3, _⟩
  have F3 : Hid _ := f3
  clear f3 F2
  go_wp2_with fail
  refine (fv_var (i := 0) F3.out (by omega) (by simp) (by simp [St.empty, St.added])).mono ?_
  rintro e w4 ⟨rfl, f4, _⟩
  have F4 : Hid (∃ st, Pa w1 w4 s n 0 1 2 st) := ⟨_, pa0 hn6 hn1 f4⟩
  clear f4 F3
  go_wp2_with fail
  go_loopw [8, 9, 10, 11, 12, 13] (fun x8 x9 x10 x11 x12 x13 wr => ∃ (i ho ha : Nat) (st : St), i ≤ n ∧ x13 = .int .i64 i ∧ x9 = .int .i64 0 ∧ x11 = .int .i64 0 ∧ x8 = .int .u32 ho ∧ x10 = .int .u32 ha ∧ Hid (Pa w1 wr s n i ho ha st) ∧ Hid (wr.ownsRow w1.heap.size 3 1 x12 i (lv (List.range i)))) (fun _ _ _ _ _ x13 _ => n - (intOf x13).toNat)
  case atStart =>
    obtain ⟨st, p⟩ := F4.out
    exact ⟨0, 1, 2, st, Nat.zero_le _, rfl, rfl, rfl, rfl, rfl, p, World.ownsRow_nil _ _ _ _⟩
  case round =>
    obtain ⟨i, ho, ha, st, hi, rfl, rfl, rfl, rfl, rfl, PR, RR⟩ := hrel
    clear F4
    obtain ⟨ar, cr, rfl⟩ := owns_slice RR.out
    by_cases hin : i < n
    · have hsz := PR.out.fv.hv.size
      have A1 : Hid (i + 1 ≤ maxLen) := by show i + 1 ≤ maxLen; unfold maxLen; omega
      have A2 : Hid ((i + 1) * 8 ≤ 140737488355328) := by show (i + 1) * 8 ≤ 140737488355328; omega
      have A3 : Hid (w1.heap.size ≤ (wr.alloc (.cells #[.int .i64 (i : Nat)] 3)).heap.size) := by show w1.heap.size ≤ (wr.alloc (.cells #[.int .i64 (i : Nat)] 3)).heap.size; simp; omega
      have R1 : Hid ((wr.alloc (.cells #[.int .i64 (i : Nat)] 3)).ownsRow w1.heap.size 3 1 (.slice ar i cr) i (lv (List.range i))) := RR.out.alloc _
      have PA : Hid (Pa w1 (wr.alloc (.cells #[.int .i64 (i : Nat)] 3)) s n i ho ha st) := ⟨PR.out.fv.below ((Below.refl _ _).alloc (Nat.le_refl _) _), PR.out.ne, PR.out.given⟩
      clear PR RR
      by_cases hi00 : i = 0
      · subst hi00
        go_wp2_with (at_builtin; go_must (refine wpList_append_cells rfl _ _ 64 rfl w1.heap.size 3 i0 _ 8 Tryd.underlying64 hi0 hz0 hz1 hz2 rfl (.slice ar 0 cr) 0 (lv (List.range 0)) ?e1 R1.out ⟨wr.heap.size, 0, none⟩ 1 (.int .i64 ((0 : Nat) : Int)) ?e2 (new_cells wr [.int .i64 ((0 : Nat) : Int)] _) rfl A1.out A2.out A3.out ?_); (case e1 => rfl); (case e2 => rfl); intro v' w5 hown hgrow hcl; have OW : Hid (w5.ownsRow w1.heap.size 3 1 v' (0 + 1) (lv (List.range (0 + 1)))) := hown; have P5 : Hid (Pa w1 w5 s n 0 ho ha st) := pa_append PA.out hpos R1.out hgrow hcl; clear hown hgrow hcl)
        refine ⟨⟨0 + 1, ho, ha, st, hin, rfl, rfl, rfl, rfl, rfl, ⟨P5.out.fv, P5.out.ne, by have := P5.out.given; omega⟩, OW⟩, by simp [intOf]; omega⟩
      · have hi1 : 1 ≤ i := by omega
        have hi0b : ((i : Int) == 0) = false := by simp; omega
        have em : max i 1 = i := by omega
        go_wp2_with (at_builtin; go_must (refine wpList_append_cells rfl _ _ 64 rfl w1.heap.size 3 i0 _ 8 Tryd.underlying64 hi0 hz0 hz1 hz2 rfl (.slice ar i cr) i (lv (List.range i)) ?e1 R1.out ⟨wr.heap.size, 0, none⟩ 1 (.int .i64 (i : Int)) ?e2 (new_cells wr [.int .i64 (i : Int)] _) rfl A1.out A2.out A3.out ?_); (case e1 => rfl); (case e2 => rfl); intro v' w5 hown hgrow hcl; have OW : Hid (w5.ownsRow w1.heap.size 3 1 v' (i + 1) (lv (List.range (i + 1)))) := (by have := hown; rw [lv_range] at this; exact this); have P5 : Hid (Pa w1 w5 s n i ho ha st) := pa_append PA.out hpos R1.out hgrow hcl; clear hown hgrow hcl)
        have hgv0 := P5.out.given
        have hne := P5.out.ne
        have g1 := (P5.out.fv.fw.given (a := ho) (by simp)).1
        have g2 := (P5.out.fv.fw.given (a := ha) (by simp)).1
        have F5 : Hid (Fv w1 w5 s n st [(ho, Cho.xorT n (List.range i) false), (ha, Cho.allT n (List.range i))]) := by have := P5.out.fv; rw [em] at this; exact this
        have HGV : Hid (st.given = st.given) := rfl
        generalize hgg : st.given = gv at *
        have G5 : Hid (st.given = gv) := hgg
        clear P5 HGV hgg PA R1
        have KV : Hid (Calls Tryd.prog 25 #[.pointer (some ⟨s, 0, none⟩), .int .i64 i] w5 fun e w' => e = .returned (.tuple #[.int .u32 (gv + 1 : Nat), .int .i64 0]) ∧ ∃ st', Fv w1 w' s n st' ([(ho, Cho.xorT n (List.range i) false), (ha, Cho.allT n (List.range i))] ++ [(gv + 1, col i &&& full n)]) ∧ st'.given = gv + 1 ∧ w5.grownBy w' (some s)) := fv_var' F5.out hin (by simp) G5.out (by omega)
        refine KV.out.mono ?_
        rintro e w6 ⟨rfl, st6, f6, gv6, gr6⟩
        have F6 : Hid _ := f6
        have G6 : Hid _ := gv6
        have O6 : Hid (w6.ownsRow w1.heap.size 3 1 v' (i + 1) (lv (List.range (i + 1)))) := rowk OW.out gr6 F5.out.hv.blk (by decide)
        clear f6 gv6 gr6 KV F5 G5 OW
        have KA : Hid (Calls Tryd.prog 17 #[.pointer (some ⟨s, 0, none⟩), .int .i64 (6 : Nat), .int .u32 ho, .int .u32 (gv + 1 : Nat)] w6 _) := fv_apply' (c := 6) F6.out (by omega) (by simp : (ho, Cho.xorT n (List.range i) false) ∈ _) (by simp : (gv + 1, col i &&& full n) ∈ _) (by simp) G6.out (by omega)
        go_wp2_with fail
        refine KA.out.mono ?_
        rintro e w7 ⟨rfl, st7, f7, gv7, gr7⟩
        have F7 : Hid _ := f7
        have G7 : Hid _ := gv7
        have O7 : Hid (w7.ownsRow w1.heap.size 3 1 v' (i + 1) (lv (List.range (i + 1)))) := rowk O6.out gr7 F6.out.hv.blk (by decide)
        clear f7 gv7 gr7 KA F6 G6 O6
        have KR : Hid (Calls Tryd.prog 28 #[.pointer (some ⟨s, 0, none⟩), .int .u32 ho] w7 _) := fv_release' F7.out (by simp : ho ∈ _) G7.out
        go_wp2_with fail
        refine KR.out.mono ?_
        rintro e w8 ⟨rfl, st8, f8, gv8, gr8⟩
        have F8 : Hid _ := f8
        have G8 : Hid _ := gv8
        have O8 : Hid (w8.ownsRow w1.heap.size 3 1 v' (i + 1) (lv (List.range (i + 1)))) := rowk O7.out gr8 F7.out.hv.blk (by decide)
        clear f8 gv8 gr8 KR F7 G7 O7
        have b1 : (ha != ho) = true := by simp; omega
        have b2 : (gv + 1 != ho) = true := by simp; omega
        have KB : Hid (Calls Tryd.prog 17 #[.pointer (some ⟨s, 0, none⟩), .int .i64 (8 : Nat), .int .u32 ha, .int .u32 (gv + 1 : Nat)] w8 _) := fv_apply' (c := 8) F8.out (by omega) (by simp [b1] : (ha, Cho.allT n (List.range i)) ∈ _) (by simp [b2] : (gv + 1, col i &&& full n) ∈ _) (Nat.le_trans (List.length_filter_le _ _) (by simp)) G8.out (by omega)
        go_wp2_with fail
        refine KB.out.mono ?_
        rintro e w9 ⟨rfl, st9, f9, gv9, gr9⟩
        have F9 : Hid _ := f9
        have G9 : Hid _ := gv9
        have O9 : Hid (w9.ownsRow w1.heap.size 3 1 v' (i + 1) (lv (List.range (i + 1)))) := rowk O8.out gr9 F8.out.hv.blk (by decide)
        clear f9 gv9 gr9 KB F8 G8 O8
        have KC : Hid (Calls Tryd.prog 28 #[.pointer (some ⟨s, 0, none⟩), .int .u32 ha] w9 _) := fv_release' F9.out (by simp [b1] : ha ∈ _) G9.out
        go_wp2_with fail
        refine KC.out.mono ?_
        rintro e w10 ⟨rfl, st10, f10, gv10, gr10⟩
        have F10 : Hid _ := f10
        have G10 : Hid _ := gv10
        have O10 : Hid (w10.ownsRow w1.heap.size 3 1 v' (i + 1) (lv (List.range (i + 1)))) := rowk O9.out gr10 F9.out.hv.blk (by decide)
        clear f10 gv10 gr10 KC F9 G9 O9
        have b3 : (gv + 1 != ha) = true := by simp; omega
        have KD : Hid (Calls Tryd.prog 28 #[.pointer (some ⟨s, 0, none⟩), .int .u32 (gv + 1 : Nat)] w10 _) := fv_release' F10.out (by simp [b2, b3] : gv + 1 ∈ _) G10.out
        go_wp2_with fail
        refine KD.out.mono ?_
        rintro e w11 ⟨rfl, st11, f11, gv11, gr11⟩
        have O11 : Hid (w11.ownsRow w1.heap.size 3 1 v' (i + 1) (lv (List.range (i + 1)))) := rowk O10.out gr11 F10.out.hv.blk (by decide)
        have P11 : Hid (Pa w1 w11 s n (i + 1) (gv + 1 + 1) (gv + 1 + 1 + 1) st11) := pa_next hn6 hi1 hin hne (by omega) (by omega) (by omega) (by omega) (by omega) f11
        clear f11 gv11 gr11 KD F10 G10 O10 b1 b2 b3
        go_wp2_with fail
        exact ⟨⟨i + 1, gv + 1 + 1, gv + 1 + 1 + 1, st11, hin, by go_num, rfl, rfl, rfl, rfl, P11, O11⟩, by simp [intOf]; omega⟩
    · have hin' : i = n := by omega
      subst hin'
      obtain ⟨gr, cr', hgr, _, _⟩ := owns_form RR.out hn1
      simp only [Value.slice.injEq, true_and] at hgr
      obtain ⟨rfl, rfl⟩ := hgr
      have PZ : Hid (Pz i ho ha (st.swps (lvls i l)) ((lvls i l).foldl Cho.swp (List.range i))) := pz_of PR.out l
      have KS : Hid (Calls Tryd.prog 34 #[.pointer (some ⟨s, 0, none⟩), .int .i64 i, .slice ao l.length cap] wr fun e w' => e = .returned (.bool true) ∧ Hv w1.heap.size w1 w' s (st.swps (lvls i l)) ∧ wr.grownBy w' (some s)) := swaps_calls s i cap w1 wr ao l st PR.out.fv.hv PR.out.fv.fw.n' PR.out.fv.fw.room HL.out
      have HBK : Hid (∃ cur, wr.heap[s]? = some (.cells cur 93 (0, 0))) := PR.out.fv.hv.blk
      clear PR
      go_wp2_with fail
      refine KS.out.mono ?_
      rintro e w6 ⟨rfl, h6, g6⟩
      have H6 : Hid _ := h6
      have R6 : Hid (w6.ownsRow w1.heap.size 3 1 (.slice (some ⟨gr, 0, none⟩) i cr) i (lv (List.range i))) := rowk RR.out g6 HBK.out (by decide)
      clear h6 g6 RR KS HBK
      generalize st.swps (lvls i l) = st2 at *
      have HLV : Hid (∀ j (h : j < l.length), 1 < i → (lvls i l)[j]? = some (pkN l[j] (i - 1))) := by
        intro j hj hi2
        unfold lvls
        rw [if_pos hi2]; simp [hj]
      have HLL : Hid ((lvls i l).length ≤ l.length ∧ (¬ 1 < i → lvls i l = [])) := by
        show (lvls i l).length ≤ l.length ∧ (¬ 1 < i → lvls i l = [])
        refine ⟨?_, fun h => if_neg h⟩
        unfold lvls
        split <;> simp
      generalize lvls i l = ks at *
      have HSW : Hid (∀ j, ((ks.take j).foldl Cho.swp (List.range i)).length = i) := by
        intro j
        generalize ks.take j = us
        have : ∀ (us : List Nat) (o : List Nat), (us.foldl Cho.swp o).length = o.length := by
          intro us
          induction us with
          | nil => intro o; rfl
          | cons u us ih => intro o; rw [List.foldl_cons, ih, Cho.swp_len]
        rw [this]; simp
      go_wp2_with fail
      go_loopw [20] (fun x wq => ∃ j : Nat, j ≤ l.length ∧ x = .int .i64 j ∧ Hid (w6.grownBy wq (some gr)) ∧ Hid (wq.ownsRow w1.heap.size 3 1 (.slice (some ⟨gr, 0, none⟩) i cr) i (lv ((ks.take j).foldl Cho.swp (List.range i))))) (fun x _ => l.length - (intOf x).toNat)
      case atStart => exact ⟨0, Nat.zero_le _, rfl, grown_refl _ _, R6⟩
      case round =>
        obtain ⟨j, hj, rfl, GQ, RQ⟩ := hrel
        have hrl := (RQ.out.lt gr rfl).1
        by_cases hbody : j < l.length ∧ 1 < i
        · obtain ⟨hjl, h1i⟩ := hbody
          obtain ⟨g, o, rfl, hg, hcell⟩ := HL.out.at' j hjl
          have e1 : wr.cell? ⟨g, o + j, none⟩ = some (.int .i64 l[j]) := (World.cell?_of_block (a := ⟨g, o + j, none⟩) (GQ.out.block g (Nat.lt_of_lt_of_le hg H6.out.bel.size) (by simp; omega))).trans ((H6.out.bel.cell (p := ⟨g, o + j, none⟩) hg).trans hcell)
          have hbd := HL.out.bd _ (List.getElem_mem hjl)
          have hpk := pkN_lt l[j] (i - 1) (by omega)
          have HTK : Hid (ks.take (j + 1) = ks.take j ++ [pkN l[j] (i - 1)]) := take_snoc _ _ _ (HLV.out j hjl h1i)
          have KP : Hid (Calls Tryd.prog 13 #[.int .i64 l[j], .int .i64 ((i : Int) - 1)] wr fun e w' => e = .returned (.int .i64 (pkN l[j] (i - 1) : Nat)) ∧ w' = wr) := by
            have := kpick_calls l[j] (i - 1) wr hbd.1 hbd.2 (by omega) (by omega)
            rw [show ((i - 1 : Nat) : Int) = (i : Int) - 1 from by omega] at this
            exact this
          clear hcell hbd
          generalize l[j] = cc at *
          generalize pkN cc (i - 1) = k at *
          have hOL := HSW.out j
          generalize hO : (ks.take j).foldl Cho.swp (List.range i) = O at *
          have r0 := RQ.out.cells (g := gr) rfl k (.int .i64 (O.getD k 0 : Nat)) (by simp [lv, List.getD, show k < O.length by omega])
          have r1 := RQ.out.cells (g := gr) rfl (k + 1) (.int .i64 (O.getD (k + 1) 0 : Nat)) (by simp [lv, List.getD, show k + 1 < O.length by omega])
          rw [Addr.add_mid, Nat.zero_add] at r0 r1
          obtain ⟨cq, hcq⟩ := row_kind RQ.out (g := gr) rfl
          have fz0 := frozen_of_block hcq k
          have fz1 := frozen_of_block hcq (k + 1)
          have HRN : Hid (((wr.setCell ⟨gr, k, none⟩ (.int .i64 (O.getD (k + 1) 0 : Nat))).setCell ⟨gr, k + 1, none⟩ (.int .i64 (O.getD k 0 : Nat))).ownsRow w1.heap.size 3 1 (.slice (some ⟨gr, 0, none⟩) i cr) i (lv ((ks.take (j + 1)).foldl Cho.swp (List.range i)))) := by
            show World.ownsRow _ _ _ _ _ _ _
            rw [HTK.out, List.foldl_append, hO]
            have := owns_put (i := k + 1) (owns_put (i := k) RQ.out (.int .i64 (O.getD (k + 1) 0 : Nat))) (.int .i64 (O.getD k 0 : Nat))
            rw [lv_set, lv_set] at this
            exact this
          have HGN : Hid (w6.grownBy ((wr.setCell ⟨gr, k, none⟩ (.int .i64 (O.getD (k + 1) 0 : Nat))).setCell ⟨gr, k + 1, none⟩ (.int .i64 (O.getD k 0 : Nat))) (some gr)) := grown_set (grown_set GQ.out)
          clear hcq
          generalize O.getD k 0 = ok0 at *
          generalize O.getD (k + 1) 0 = ok1 at *
          go_wp2_with fail
          refine KP.out.mono ?_
          rintro e w7 ⟨rfl, rfl⟩
          go_wp2_with fail
          exact ⟨⟨j + 1, hjl, by go_num, HGN, HRN⟩, by simp [intOf]; omega⟩
        · have HTE : Hid (ks.take j = ks) := by
            show ks.take j = ks
            by_cases h1i : 1 < i
            · exact List.take_of_length_le (by have := HLL.out.1; omega)
            · rw [HLL.out.2 h1i]; simp
          have RE : Hid (wr.ownsRow w1.heap.size 3 1 (.slice (some ⟨gr, 0, none⟩) i cr) i (lv (ks.foldl Cho.swp (List.range i)))) := by
            have := RQ.out; rw [HTE.out] at this; exact this
          have HLN : Hid ((ks.foldl Cho.swp (List.range i)).length = i) := by have := HSW.out j; rw [HTE.out] at this; exact this
          generalize ks.foldl Cho.swp (List.range i) = ord2 at *
          have HE : Hid (Hv w1.heap.size w1 wr s st2) := H6.out.over hpos GQ.out (fun b hb => by
            obtain rfl : gr = b := by simpa using hb
            refine ⟨hrl, row_kind R6.out rfl, row_kind RE.out rfl, fun _ j' hj' => ?_⟩
            have := RE.out.cells (g := gr) rfl j' (.int .i64 (st2.ord[j'] : Nat)) (by simp only [PZ.out.ord']; simp [lv, show j' < ord2.length by rw [← PZ.out.ord']; exact hj'])
            rw [Addr.add_mid, Nat.zero_add] at this
            exact this)
          have KO : Hid (Calls Tryd.prog 36 #[.pointer (some ⟨s, 0, none⟩)] wr fun e w' => ∃ g cap, e = .returned (.slice (some ⟨g, 0, none⟩) i cap) ∧ OwnI wr w' g i cap ord2) := by
            have := sorder_calls s st2 wr HE.out.has
            rw [PZ.out.ord', HLN.out] at this
            exact this
          clear RQ HTE GQ H6 R6
          by_cases hjl : j < l.length
          · have h1i : ¬ 1 < i := fun h => hbody ⟨hjl, h⟩
            clear hbody
            go_wp2_with fail
            refine KO.out.mono ?_
            rintro e w7 ⟨g7, c7, rfl, l7⟩
            have H7 : Hid (Hv w1.heap.size w1 w7 s st2) := HE.out.below l7.bel
            have KSM : Hid (Calls Tryd.prog 35 #[.slice (some ⟨g7, 0, none⟩) i c7, .slice (some ⟨gr, 0, none⟩) i cr] w7 fun e w' => e = .returned (.bool true) ∧ ∃ q, w' = w7.drewN q) := by
              have := ksame_calls _ _ ord2 ord2 w7 (rowA_of l7.row HLN.out.symm (by rw [HLN.out]; omega)) (rowA_of (by rw [HLN.out]; exact row_below RE.out l7.bel) HLN.out.symm (by rw [HLN.out]; omega))
              rw [show decide (ord2 = ord2) = true from by simp] at this
              exact this
            clear l7 HE KO
            go_wp2_with fail
            refine KSM.out.mono ?_
            rintro e w8 ⟨rfl, q8, rfl⟩
            have H8 : Hid (Hv w1.heap.size w1 (w7.drewN q8) s st2) := H7.out.below (below_drewN (Below.refl _ _) q8)
            clear H7 KSM
            generalize w7.drewN q8 = w8 at *
            have KZ : Hid (∀ W, Hv w1.heap.size w1 W s st2 → Calls Tryd.prog 27 #[.pointer (some ⟨s, 0, none⟩), .int .u32 ho] W fun e w' => e = .returned (.tuple #[.int .i64 ((2 * i - 1 : Nat) : Int), .int .i64 0]) ∧ Below W.heap.size W w') := fun W hW => by
              have := size_ok s ho st2 W hW.has PZ.out.lo
              rw [PZ.out.so] at this
              exact this
            have KY : Hid (∀ W, Hv w1.heap.size w1 W s st2 → Calls Tryd.prog 27 #[.pointer (some ⟨s, 0, none⟩), .int .u32 ha] W fun e w' => e = .returned (.tuple #[.int .i64 (i : Nat), .int .i64 0]) ∧ Below W.heap.size W w') := fun W hW => by
              have := size_ok s ha st2 W hW.has PZ.out.la
              rw [PZ.out.sa] at this
              exact this
            go_wp2_with fail
            refine (KZ.out _ H8.out).mono ?_
            rintro e w9 ⟨rfl, b9⟩
            have H9 : Hid (Hv w1.heap.size w1 w9 s st2) := H8.out.below b9
            clear b9 H8
            go_wp2_with fail
            refine (KY.out _ H9.out).mono ?_
            rintro e w10 ⟨rfl, b10⟩
            have B10 : Hid (Below w1.heap.size w1 w10) := (H9.out.below b10).bel
            clear b10 H9 KZ KY
            have e2 : ((2 * i - 1 : Nat) : Int) = 2 * (i : Int) - 1 := by omega
            rw [e2]
            go_wp2_with fail
            go_ret
            exact ⟨by simp, B10.out⟩
          · clear hbody
            go_wp2_with fail
            refine KO.out.mono ?_
            rintro e w7 ⟨g7, c7, rfl, l7⟩
            have H7 : Hid (Hv w1.heap.size w1 w7 s st2) := HE.out.below l7.bel
            have KSM : Hid (Calls Tryd.prog 35 #[.slice (some ⟨g7, 0, none⟩) i c7, .slice (some ⟨gr, 0, none⟩) i cr] w7 fun e w' => e = .returned (.bool true) ∧ ∃ q, w' = w7.drewN q) := by
              have := ksame_calls _ _ ord2 ord2 w7 (rowA_of l7.row HLN.out.symm (by rw [HLN.out]; omega)) (rowA_of (by rw [HLN.out]; exact row_below RE.out l7.bel) HLN.out.symm (by rw [HLN.out]; omega))
              rw [show decide (ord2 = ord2) = true from by simp] at this
              exact this
            clear l7 HE KO
            go_wp2_with fail
            refine KSM.out.mono ?_
            rintro e w8 ⟨rfl, q8, rfl⟩
            have H8 : Hid (Hv w1.heap.size w1 (w7.drewN q8) s st2) := H7.out.below (below_drewN (Below.refl _ _) q8)
            clear H7 KSM
            generalize w7.drewN q8 = w8 at *
            have KZ : Hid (∀ W, Hv w1.heap.size w1 W s st2 → Calls Tryd.prog 27 #[.pointer (some ⟨s, 0, none⟩), .int .u32 ho] W fun e w' => e = .returned (.tuple #[.int .i64 ((2 * i - 1 : Nat) : Int), .int .i64 0]) ∧ Below W.heap.size W w') := fun W hW => by
              have := size_ok s ho st2 W hW.has PZ.out.lo
              rw [PZ.out.so] at this
              exact this
            have KY : Hid (∀ W, Hv w1.heap.size w1 W s st2 → Calls Tryd.prog 27 #[.pointer (some ⟨s, 0, none⟩), .int .u32 ha] W fun e w' => e = .returned (.tuple #[.int .i64 (i : Nat), .int .i64 0]) ∧ Below W.heap.size W w') := fun W hW => by
              have := size_ok s ha st2 W hW.has PZ.out.la
              rw [PZ.out.sa] at this
              exact this
            go_wp2_with fail
            refine (KZ.out _ H8.out).mono ?_
            rintro e w9 ⟨rfl, b9⟩
            have H9 : Hid (Hv w1.heap.size w1 w9 s st2) := H8.out.below b9
            clear b9 H8
            go_wp2_with fail
            refine (KY.out _ H9.out).mono ?_
            rintro e w10 ⟨rfl, b10⟩
            have B10 : Hid (Below w1.heap.size w1 w10) := (H9.out.below b10).bel
            clear b10 H9 KZ KY
            have e2 : ((2 * i - 1 : Nat) : Int) = 2 * (i : Int) - 1 := by omega
            rw [e2]
            go_wp2_with fail
            go_ret
            exact ⟨by simp, B10.out⟩
end Go.Proofs.YthoodkbdpnffdaaDoor
