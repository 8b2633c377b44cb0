/-
  Own work: a store of which some handles have been given back; its calls (walks over contracts).
-/
import Derived.Test.YthoodkbdpnffdaaDoorRelM
import Derived.Test.YthoodkbdpnffdaaDoorFilledW
namespace Go.Proofs.YthoodkbdpnffdaaDoor
open Go.RowKit
open Cho (U64 Tab full col Nd Red)

/-- Since the world w0, in which there were B blocks: in block s lies the store st of n variables; of the functions of these tables just those are live of which L says so; no node is there in vain. -/
structure Lv (B : Nat) (w0 w : World) (s n : Nat) (ts : List Nat) (L : Nat → Prop) (st : St) : Prop where
  lo : B ≤ s
  bel : Below B w0 w
  has : Has w s st
  n' : st.n = n
  cl : Clean st
  lv : ∀ i (h : i < ts.length), L i → st.live (i + 1) ∧ st.tab (i + 1) = ts[i]
  only : ∀ a, st.live a → ∃ i, i < ts.length ∧ L i ∧ a = i + 1

theorem Lv.congr {B : Nat} {w0 w : World} {s n : Nat} {ts : List Nat} {L L' : Nat → Prop} {st : St} (h : Lv B w0 w s n ts L st) (hL : ∀ i, i < ts.length → (L i ↔ L' i)) : Lv B w0 w s n ts L' st :=
  ⟨h.lo, h.bel, h.has, h.n', h.cl, fun i hi hl => h.lv i hi ((hL i hi).2 hl), fun a ha => by obtain ⟨i, hi, hl, e⟩ := h.only a ha; exact ⟨i, hi, (hL i hi).1 hl, e⟩⟩
theorem Lv.blk {B : Nat} {w0 w : World} {s n : Nat} {ts : List Nat} {L : Nat → Prop} {st : St} (h : Lv B w0 w s n ts L st) : ∃ cur, w.heap[s]? = some (.cells cur 93 (0, 0)) := by
  obtain ⟨_, _, _, _, hb, _⟩ := h.has.lies.ex
  exact ⟨_, hb⟩
theorem Lv.size {B : Nat} {w0 w : World} {s n : Nat} {ts : List Nat} {L : Nat → Prop} {st : St} (h : Lv B w0 w s n ts L st) : s < w.heap.size := by
  obtain ⟨_, hb⟩ := h.blk
  exact lt_of_block hb
theorem Lv.below {B : Nat} {w0 w w' : World} {s n : Nat} {ts : List Nat} {L : Nat → Prop} {st : St} (h : Lv B w0 w s n ts L st) (hb : Below w.heap.size w w') : Lv B w0 w' s n ts L st :=
  ⟨h.lo, h.bel.trans (hb.mono (by have := h.lo; have := h.size; omega)), h.has.below hb, h.n', h.cl, h.lv, h.only⟩
theorem Lv.grown {B : Nat} {w0 w w' : World} {s n : Nat} {ts : List Nat} {L : Nat → Prop} {st : St} (h : Lv B w0 w s n ts L st) (hg : w.grownBy w' (some s)) : Below B w0 w' :=
  h.bel.grown hg (by have := h.lo; have := h.size; omega) (fun k hk => by simp at hk; have := h.lo; omega)

theorem hs_live {st : St} {m : Nat} (hs : st.hs = (List.range m).map (· + 1) ++ List.replicate (30 - m) 0) (hi : Inv st) {a : Nat} (ha : st.live a) : ∃ i, i < m ∧ a = i + 1 := by
  obtain ⟨hk, hka⟩ := slot_at hi ha
  have h0 : a ≠ 0 := (slot_lt ha).2
  have hm : a ∈ st.hs := by rw [← hka]; exact List.getElem_mem _
  rw [hs, List.mem_append] at hm
  rcases hm with h | h
  · obtain ⟨i, hi, rfl⟩ := List.mem_map.1 h
    exact ⟨i, by simpa using hi, rfl⟩
  · exact absurd (List.eq_of_mem_replicate h) h0

/-- One function more: a variable's. -/
theorem mk_var (B : Nat) (w0 w : World) (s n i : Nat) (ts : List Nat) (k : Int) (h : Mk B w0 w s n 4000 ts) (hi : i < n) (hk : k = ts.length + 1) (hl : ts.length < 30) :
    Calls Tryd.prog 25 #[.pointer (some ⟨s, 0, none⟩), .int .i64 i] w fun e w' => e = .returned (.tuple #[.int .u32 k, .int .i64 0]) ∧ (∃ st, Lv B w0 w' s n (ts ++ [col i &&& full n]) (fun _ => True) st ∧ st.ns.length ≤ 4000) ∧ w.grownBy w' (some s) := by
  obtain ⟨st, hst, hof⟩ := h.has (by omega)
  have hn := hof.n'
  subst hn
  have hf := of_free hof hl
  have hn6 := hst.inv.n6
  have ht : Tab st.n (col i &&& full st.n) := by
    show col i &&& full st.n < 2 ^ 2 ^ st.n
    have : col i &&& full st.n ≤ full st.n := Nat.and_le_right
    unfold full at *
    have := Nat.two_pow_pos (2 ^ st.n)
    omega
  have hof' := of_snoc hof hl ht
  have hlen : (st.added (col i &&& full st.n)).ns.length ≤ 4000 := by
    have := hof'.len
    simp only [List.length_append, List.length_cons, List.length_nil] at this
    omega
  refine (var_ok s i st w hst hi (by rw [hf]; exact hl) (by rw [hof.room']; exact hlen) (by rw [hof.given]; omega)).mono ?_
  rintro e w' ⟨rfl, h', hg⟩
  refine ⟨by rw [hof.given, hk]; rfl, ⟨_, ⟨h.lo, mk_below h hg, h', rfl, hof'.cl, fun i hi _ => hof'.tabs i hi, fun a ha => ?_⟩, hlen⟩, hg⟩
  obtain ⟨i, hi, e⟩ := hs_live hof'.hs hof'.inv ha
  exact ⟨i, hi, trivial, e⟩

theorem lv_used (B : Nat) (w0 w : World) (s n : Nat) (ts : List Nat) (L : Nat → Prop) (st : St) (h : Lv B w0 w s n ts L st) :
    Calls Tryd.prog 26 #[.pointer (some ⟨s, 0, none⟩)] w fun e w' => e = .returned (.int .i64 (st.ns.length : Nat)) ∧ w' = w := used_calls s st w h.has.lies

theorem lv_size (B : Nat) (w0 w : World) (s n i : Nat) (ts : List Nat) (L : Nat → Prop) (st : St) (a : Int) (h : Lv B w0 w s n ts L st) (hi : i < ts.length) (hL : L i) (ha : a = i + 1) :
    Calls Tryd.prog 27 #[.pointer (some ⟨s, 0, none⟩), .int .u32 a] w fun e w' => e = .returned (.tuple #[.int .i64 (st.size (i + 1) : Nat), .int .i64 0]) ∧ Lv B w0 w' s n ts L st ∧ Below w.heap.size w w' := by
  have := size_ok s (i + 1) st w h.has (h.lv i hi hL).1
  rw [show (((i + 1 : Nat)) : Int) = a from by omega] at this
  refine this.mono ?_
  rintro e w' ⟨rfl, hb⟩
  exact ⟨rfl, h.below hb, hb⟩

theorem lv_is (B : Nat) (w0 w : World) (s n i t : Nat) (ts : List Nat) (L : Nat → Prop) (st : St) (a : Int) (h : Lv B w0 w s n ts L st) (hi : i < ts.length) (hL : L i) (ha : a = i + 1) (ht : ts[i] = t) :
    Calls Tryd.prog 18 #[.pointer (some ⟨s, 0, none⟩), .int .u32 a, .int .i64 0, .int .u64 t] w fun e w' => e = .returned (.bool true) ∧ Lv B w0 w' s n ts L st ∧ Below w.heap.size w w' := by
  have := is_ok s (i + 1) t st w h.has (h.lv i hi hL).1 (by rw [(h.lv i hi hL).2, ht])
  rw [show (((i + 1 : Nat)) : Int) = a from by omega] at this
  refine this.mono ?_
  rintro e w' ⟨rfl, hb⟩
  exact ⟨rfl, h.below hb, hb⟩

theorem lv_release (B : Nat) (w0 w : World) (s n i : Nat) (ts : List Nat) (L : Nat → Prop) (st : St) (a : Int) (h : Lv B w0 w s n ts L st) (hi : i < ts.length) (hL : L i) (ha : a = i + 1) :
    Calls Tryd.prog 28 #[.pointer (some ⟨s, 0, none⟩), .int .u32 a] w fun e w' => e = .returned (.int .i64 0) ∧ (∃ st', Lv B w0 w' s n ts (fun j => L j ∧ j ≠ i) st') ∧ w.grownBy w' (some s) := by
  obtain ⟨hli, hti⟩ := h.lv i hi hL
  have := release_walk s (i + 1) st w h.has hli
  rw [show (((i + 1 : Nat)) : Int) = a from by omega] at this
  refine this.mono ?_
  rintro e w' ⟨rfl, h', hg⟩
  have hf := freed h.has.inv h.cl hli
  have hfew := h.has.few
  have hfl := hf.len
  refine ⟨rfl, ⟨_, ⟨h.lo, h.grown hg, ⟨h', hf.inv, by omega⟩, h.n', hf.cl, ?_, ?_⟩⟩, hg⟩
  · intro j hj ⟨hjL, hji⟩
    obtain ⟨a1, a2⟩ := h.lv j hj hjL
    obtain ⟨b1, b2⟩ := hf.old (j + 1) (by omega) a1
    exact ⟨b1, by rw [b2, a2]⟩
  · intro b hb
    obtain ⟨c1, c2⟩ := hf.only b hb
    obtain ⟨j, hj, hjL, e⟩ := h.only b c1
    exact ⟨j, hj, ⟨hjL, by omega⟩, e⟩

set_option maxHeartbeats 400000 in
theorem table_no (s a : Nat) (st : St) (w : World) (h : StoreAt w s st) (hl : ¬ st.live a) :
    Calls Tryd.prog 42 #[.pointer (some ⟨s, 0, none⟩), .int .u32 a] w fun e w' => e = .returned (.tuple #[.int .u64 0, .int .i64 2]) ∧ w' = w := by
  have HR : Hid (Calls Tryd.prog 46 #[.pointer (some ⟨s, 0, none⟩), .int .u32 a] w fun e w' => e = .returned (.tuple #[.int .i64 0, .int .i64 2]) ∧ w' = w) := root_no s a st w h hl
  clear h
  go_enter Tryd.func42, Tryd.ntmps42
  go_wp2_with fail
  refine HR.out.mono ?_
  rintro e w1 ⟨rfl, rfl⟩
  go_wp2_with fail
  go_ret2
  exact ⟨rfl, rfl⟩
set_option maxHeartbeats 400000 in
theorem count_no (s a : Nat) (st : St) (w : World) (h : StoreAt w s st) (hl : ¬ st.live a) :
    Calls Tryd.prog 20 #[.pointer (some ⟨s, 0, none⟩), .int .u32 a] w fun e w' => e = .returned (.tuple #[.int .i64 0, .int .i64 2]) ∧ w' = w := by
  have HR : Hid (Calls Tryd.prog 42 #[.pointer (some ⟨s, 0, none⟩), .int .u32 a] w fun e w' => e = .returned (.tuple #[.int .u64 0, .int .i64 2]) ∧ w' = w) := table_no s a st w h hl
  clear h
  go_enter Tryd.func20, Tryd.ntmps20
  go_wp2_with fail
  refine HR.out.mono ?_
  rintro e w1 ⟨rfl, rfl⟩
  go_wp2_with fail
  go_ret2
  exact ⟨rfl, rfl⟩
theorem lv_gone (B : Nat) (w0 w : World) (s n i : Nat) (ts : List Nat) (L : Nat → Prop) (st : St) (a : Int) (h : Lv B w0 w s n ts L st) (hL : ¬ L i) (ha : a = i + 1) :
    Calls Tryd.prog 20 #[.pointer (some ⟨s, 0, none⟩), .int .u32 a] w fun e w' => e = .returned (.tuple #[.int .i64 0, .int .i64 2]) ∧ w' = w := by
  have := count_no s (i + 1) st w h.has.lies (fun hl => by
    obtain ⟨j, _, hj, e⟩ := h.only _ hl
    obtain rfl : j = i := by omega
    exact hL hj)
  rw [show (((i + 1 : Nat)) : Int) = a from by omega] at this
  exact this

/-- The nodes of the first k functions, each one's by itself; the most of them. -/
def sumTo (st : St) : Nat → Nat
  | 0 => 0
  | k + 1 => sumTo st k + st.size (k + 1)
def mostTo (st : St) : Nat → Nat
  | 0 => 1
  | k + 1 => if mostTo st k < st.size (k + 1) then st.size (k + 1) else mostTo st k
theorem size_le_ns (st : St) (a : Nat) : st.size a ≤ st.ns.length := Cho.size_le _ _
theorem sumTo_le (st : St) (k : Nat) : sumTo st k ≤ k * st.ns.length := by
  induction k with
  | zero => simp [sumTo]
  | succ k ih => simp only [sumTo]; have := size_le_ns st (k + 1); rw [Nat.add_mul]; omega
theorem mostTo_le (st : St) (h : 1 ≤ st.ns.length) (k : Nat) : mostTo st k ≤ st.ns.length := by
  induction k with
  | zero => exact h
  | succ k ih => simp only [mostTo]; have := size_le_ns st (k + 1); split <;> omega
theorem sumTo_eq (st : St) (k : Nat) : sumTo st k = (((List.range k).map (· + 1)).map st.size).sum := by
  induction k with
  | zero => simp [sumTo]
  | succ k ih => simp only [sumTo]; rw [ih, List.range_succ]; simp

/-- With a variable behind them. -/
theorem lv_counts {B : Nat} {w0 w : World} {s n : Nat} {ts : List Nat} {st : St} (h : Lv B w0 w s n (ts ++ [col 0 &&& full n]) (fun _ => True) st) (hn : 1 ≤ n) : st.ns.length ≤ sumTo st ts.length + 1 ∧ 1 ≤ st.ns.length ∧ st.size (ts.length + 1) = 1 := by
  obtain ⟨hl, ht⟩ := h.lv ts.length (by simp) trivial
  have hn' := h.n'
  subst hn'
  obtain ⟨h1, h2⟩ := size_var h.has.inv (i := 0) hl (by omega) (by rw [ht]; simp)
  refine ⟨?_, h2, h1⟩
  have := used_sum h.has.inv h.cl ((List.range (ts.length + 1)).map (· + 1)) (fun a ha => by
    obtain ⟨i, hi, rfl⟩ := List.mem_map.1 ha
    exact (h.lv i (by simpa using hi) trivial).1) (fun a ha => by
    obtain ⟨i, hi, _, rfl⟩ := h.only a ha
    exact List.mem_map_of_mem (by simpa using hi))
  rw [← sumTo_eq] at this
  simp only [sumTo, h1] at this
  exact this
theorem lv_one' {B : Nat} {w0 w : World} {s n j : Nat} {ts : List Nat} {L : Nat → Prop} {st : St} (h : Lv B w0 w s n ts L st) (hj : j < ts.length) (hL : ∀ i, i < ts.length → (L i ↔ i = j)) : st.size (j + 1) = st.ns.length :=
  used_one h.has.inv h.cl (h.lv j hj ((hL j hj).2 rfl)).1 fun b hb => by
    obtain ⟨i, hi, hl, e⟩ := h.only b hb
    have := (hL i hi).1 hl
    omega
theorem lv_none {B : Nat} {w0 w : World} {s n : Nat} {ts : List Nat} {L : Nat → Prop} {st : St} (h : Lv B w0 w s n ts L st) (hL : ∀ i, i < ts.length → ¬ L i) : st.ns.length = 0 :=
  used_none h.has.inv h.cl fun b hb => by
    obtain ⟨i, hi, hl, e⟩ := h.only b hb
    exact hL i hi hl
end Go.Proofs.YthoodkbdpnffdaaDoor
