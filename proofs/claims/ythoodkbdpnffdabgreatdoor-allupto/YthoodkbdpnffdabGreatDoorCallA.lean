/-
  Own work: a store of the program and one of the document's answer that say the same (plain mathematics).
-/
import Derived.Test.YthoodkbdpnffdabGreatDoorRefD
import Derived.Test.YthoodkbdpnffdabGreatDoorRefR
import Derived.Test.YthoodkbdpnffdabGreatDoorPlainD
import Derived.Test.YthoodkbdpnffdabGreatDoorPlainL
import Derived.Test.YthoodkbdpnffdabGreatDoorRefL
namespace Go.Proofs.YthoodkbdpnffdabGreatDoor
open Cho (U64 Tab full col Nd Red)

def St.get (st : St) (a : Nat) : Option Nat := if st.slot a < 30 then some (st.tab a) else none
theorem St.get_live {st : St} {a : Nat} (h : st.live a) : st.get a = some (st.tab a) := if_pos h
theorem St.get_dead {st : St} {a : Nat} (h : ¬ st.live a) : st.get a = none := if_neg h
theorem St.live_of {st : St} {a f : Nat} (h : st.get a = some f) : st.live a ∧ st.tab a = f := by
  unfold St.get at h
  split at h
  · rename_i hl; exact ⟨hl, by simpa using h⟩
  · cases h
theorem St.dead_of {st : St} {a : Nat} (h : st.get a = none) : ¬ st.live a := by
  unfold St.get at h
  split at h
  · cases h
  · rename_i hl; exact hl

/-- They say the same. -/
structure Sim (st : St) (r : RSt) : Prop where
  inv : Inv st
  cl : Clean st
  few : st.ns.length ≤ 4000
  ok : RefOk r
  n : r.n = st.n
  room : r.room = st.room
  given : r.given = st.given
  ord : r.ord = st.ord
  get : ∀ a, st.get a = r.get a

section
variable {st : St} {r : RSt}
theorem Sim.live (h : Sim st r) (a : Nat) : st.live a ↔ a ∈ r.hs := by
  have hg := h.get a
  constructor
  · intro hl
    rw [St.get_live hl] at hg
    exact get_mem hg.symm
  · intro hm
    apply Classical.byContradiction
    intro hd
    rw [St.get_dead hd] at hg
    exact get_none hg.symm hm
theorem Sim.tabs (h : Sim st r) : r.hs.map st.tab = r.ts := by
  apply List.ext_getElem
  · simp [RSt.hs, RSt.ts]
  · intro i h1 h2
    have hi : i < r.L.length := by simpa [RSt.hs] using h1
    have hg := h.get r.L[i].1
    rw [get_at h.ok hi] at hg
    have := (St.live_of hg).2
    simpa [RSt.hs, RSt.ts] using this
theorem Sim.used (h : Sim st r) : r.used = st.ns.length := by
  unfold RSt.used
  rw [h.n, h.ord, ← h.tabs]
  exact nodes_live h.inv h.cl r.hs (fun a ha => (h.live a).2 ha) (fun a ha => (h.live a).1 ha)
theorem Sim.size (h : Sim st r) {a f : Nat} (ha : r.get a = some f) : r.size f = st.size a := by
  rw [← h.get a] at ha
  obtain ⟨hl, rfl⟩ := St.live_of ha
  unfold RSt.size
  rw [h.n, h.ord]
  exact nodes_one h.inv hl
/-- A slot is free where fewer than thirty are live. -/
theorem Sim.free (h : Sim st r) : r.L.length < 30 ↔ st.free < 30 := by
  have hl : r.L.length = (st.hs.filter (· != 0)).length := by
    have e : r.L.length = r.hs.length := by simp [RSt.hs]
    rw [e]
    apply List.Perm.length_eq
    rw [List.perm_ext_iff_of_nodup h.ok.nodup]
    · intro a
      rw [← h.live a]
      constructor
      · intro hl
        obtain ⟨hk, e⟩ := slot_at h.inv hl
        have h0 := (slot_lt hl).2
        rw [List.mem_filter]
        exact ⟨by rw [← e]; exact List.getElem_mem hk, by simpa using h0⟩
      · intro hm
        rw [List.mem_filter] at hm
        have h0 : a ≠ 0 := by simpa using hm.2
        unfold St.live St.slot
        rw [if_neg h0, ← h.inv.hs30]
        exact List.idxOf_lt_length_iff.2 hm.1
    · have key : ∀ (l : List Nat), (∀ i j (hi : i < l.length) (hj : j < l.length), l[i] = l[j] → l[i] ≠ 0 → i = j) → (l.filter (· != 0)).Nodup := by
        intro l
        induction l with
        | nil => intro _; simp
        | cons b l ih =>
          intro hd
          have ihl := ih (fun i j hi hj e hne => by
            have := hd (i + 1) (j + 1) (by simp; omega) (by simp; omega) (by simpa using e) (by simpa using hne)
            omega)
          rw [List.filter_cons]
          split
          · rename_i hb
            rw [List.nodup_cons]
            refine ⟨?_, ihl⟩
            intro hm
            rw [List.mem_filter] at hm
            obtain ⟨j, hj, e⟩ := List.getElem_of_mem hm.1
            have := hd 0 (j + 1) (by simp) (by simp; omega) (by simpa using e.symm) (by simpa using hb)
            omega
          · exact ihl
      exact key st.hs h.cl.nd
  have hsplit : (st.hs.filter (· != 0)).length + (st.hs.filter (· == 0)).length = 30 := by
    rw [← h.inv.hs30]
    have : ∀ (l : List Nat), (l.filter (· != 0)).length + (l.filter (· == 0)).length = l.length := by
      intro l
      induction l with
      | nil => rfl
      | cons b l ih =>
        rw [List.filter_cons, List.filter_cons]
        by_cases hb : b = 0
        · subst hb; simp; omega
        · simp [hb]; omega
    exact this st.hs
  have hz : st.free < 30 ↔ 0 ∈ st.hs := by
    unfold St.free
    rw [← h.inv.hs30]
    exact List.idxOf_lt_length_iff
  rw [hz, hl]
  constructor
  · intro hlt
    have : (st.hs.filter (· == 0)) ≠ [] := by
      intro e; rw [e] at hsplit; simp at hsplit; omega
    obtain ⟨x, hx⟩ := List.exists_mem_of_ne_nil _ this
    rw [List.mem_filter] at hx
    have : x = 0 := by simpa using hx.2
    rw [← this]; exact hx.1
  · intro hm
    have hx : 0 ∈ st.hs.filter (· == 0) := by rw [List.mem_filter]; exact ⟨hm, rfl⟩
    have := List.length_pos_of_mem hx
    omega
end

/-- A function more, or why not. -/
def St.made (st : St) (t : Nat) : St × Nat × Nat :=
  if st.free < 30 then if (st.added t).ns.length ≤ st.room then (st.added t, st.given + 1, 0) else (st, 0, 4) else (st, 0, 3)
theorem push_get {r : RSt} (h : RefOk r) (t a : Nat) : (r.push t).get a = if a = r.given + 1 then some t else r.get a := by
  unfold RSt.get RSt.push
  simp only [List.find?_append]
  by_cases e : a = r.given + 1
  · subst e
    rw [if_pos rfl]
    have hn : r.L.find? (fun p => p.1 == r.given + 1) = none := by
      rw [List.find?_eq_none]
      intro p hp hc
      have := h.hs p.1 (List.mem_map_of_mem hp)
      simp at hc; omega
    rw [hn]; simp
  · rw [if_neg e]
    have hn : [(r.given + 1, t)].find? (fun p => p.1 == a) = none := by
      rw [List.find?_eq_none]
      intro p hp hc
      simp at hp; subst hp
      simp at hc; omega
    rw [hn]; simp
theorem sim_push {st : St} {r : RSt} {t : Nat} (h : Sim st r) (ht : Tab st.n t) (hf : st.free < 30) (hg : st.given + 1 < 4294967295) (hr : (st.added t).ns.length ≤ st.room) : Sim (st.added t) (r.push t) := by
  have ha := added h.inv ht hf
  have hok : RefOk (r.push t) := push_ok h.ok (h.free.2 hf) (by rw [h.n]; exact ht) (by rw [h.given]; omega)
  refine ⟨ha.inv, clean_added h.inv h.cl t hf, ?_, hok, h.n, h.room, by simp [RSt.push, St.added, h.given], h.ord, ?_⟩
  · have := h.ok.room; rw [h.room] at this; omega
  · intro a
    rw [push_get h.ok, h.given]
    by_cases e : a = st.given + 1
    · subst e
      rw [if_pos rfl, St.get_live ha.new, ha.tab]
    · rw [if_neg e, ← h.get a]
      by_cases hl : st.live a
      · obtain ⟨o1, _, o2⟩ := ha.old a hl
        rw [St.get_live o1, St.get_live hl, o2]
      · rw [St.get_dead hl]
        apply St.get_dead
        intro hl'
        rcases hs_added h.inv hl' with h' | h'
        · exact hl h'
        · exact e h'
theorem sim_need {st : St} {r : RSt} {t : Nat} (h : Sim st r) (ht : Tab st.n t) (hf : st.free < 30) : r.need t = (st.added t).ns.length := by
  have ha := added h.inv ht hf
  have hc := clean_added h.inv h.cl t hf
  have hq : ∀ a, (st.added t).live a ↔ a ∈ r.hs ++ [st.given + 1] := by
    intro a
    rw [List.mem_append, ← h.live a]
    constructor
    · intro hl
      rcases hs_added h.inv hl with h' | h'
      · exact .inl h'
      · exact .inr (by simp [h'])
    · rintro (hl | hm)
      · exact (ha.old a hl).1
      · simp at hm; subst hm; exact ha.new
  have := nodes_live ha.inv hc (r.hs ++ [st.given + 1]) (fun a hm => (hq a).2 hm) (fun a hl => (hq a).1 hl)
  have e : (r.hs ++ [st.given + 1]).map (st.added t).tab = r.ts ++ [t] := by
    rw [List.map_append, ← h.tabs]
    congr 1
    · apply List.map_congr_left
      intro a hm
      exact (ha.old a ((h.live a).2 hm)).2.2
    · simp [ha.tab]
  rw [e] at this
  unfold RSt.need
  rw [h.n, h.ord]
  exact this
/-- MAKING. -/
theorem sim_made {st : St} {r : RSt} {t : Nat} (h : Sim st r) (ht : Tab st.n t) (hg : st.given + 1 < 4294967295) : (st.made t).2 = (r.made t).2 ∧ Sim (st.made t).1 (r.made t).1 := by
  unfold St.made RSt.made
  by_cases hf : st.free < 30
  · rw [if_pos hf, if_pos (h.free.2 hf), sim_need h ht hf, h.room]
    by_cases hr : (st.added t).ns.length ≤ st.room
    · rw [if_pos hr, if_pos hr]
      exact ⟨by rw [h.given], sim_push h ht hf hg hr⟩
    · rw [if_neg hr, if_neg hr]; exact ⟨rfl, h⟩
  · rw [if_neg hf, if_neg (fun hl => hf (h.free.1 hl))]; exact ⟨rfl, h⟩
/-- GIVING BACK. -/
theorem drop_get {r : RSt} (a b : Nat) : (r.drop a).get b = if b = a then none else r.get b := by
  unfold RSt.get RSt.drop
  simp only [List.find?_filter]
  by_cases e : b = a
  · subst e
    rw [if_pos rfl]
    have : r.L.find? (fun p => decide ((p.1 != b) = true ∧ (p.1 == b) = true)) = none := by
      rw [List.find?_eq_none]; intro p _; simp
    rw [this]; rfl
  · rw [if_neg e]
    congr 1
    congr 1
    funext p
    by_cases hp : p.1 = b
    · simp [hp, e]
    · simp [hp]
theorem sim_drop {st : St} {r : RSt} {a : Nat} (h : Sim st r) (hl : st.live a) : Sim (st.released a) (r.drop a) := by
  have hf := freed h.inv h.cl hl
  refine ⟨hf.inv, hf.cl, Nat.le_trans hf.len h.few, drop_ok h.ok a, h.n, h.room, h.given, h.ord, ?_⟩
  intro b
  rw [drop_get]
  by_cases e : b = a
  · subst e
    rw [if_pos rfl]
    exact St.get_dead hf.gone
  · rw [if_neg e, ← h.get b]
    by_cases hb : st.live b
    · obtain ⟨h1, h2⟩ := hf.old b e hb
      rw [St.get_live h1, St.get_live hb, h2]
    · rw [St.get_dead hb]
      exact St.get_dead (fun hb' => hb (hf.only b hb').1)
theorem sim_empty {n room : Nat} (h1 : 1 ≤ n) (h6 : n ≤ 6) (hr : room ≤ 4000) : Sim (St.empty n room) (RSt.empty n room) := by
  refine ⟨inv_empty n room h1 h6, clean_empty n room, by simp [St.empty], empty_ok h1 h6 hr, rfl, rfl, rfl, rfl, ?_⟩
  intro a
  have : (RSt.empty n room).get a = none := by simp [RSt.get, RSt.empty]
  rw [this]
  apply St.get_dead
  intro hl
  obtain ⟨e1, e0⟩ := slot_lt hl
  have hm : a ∈ (St.empty n room).hs := by
    apply List.idxOf_lt_length_iff.1
    rw [← e1, (inv_empty n room h1 h6).hs30]; exact hl
  simp [St.empty] at hm
  exact e0 hm
end Go.Proofs.YthoodkbdpnffdabGreatDoor

/-
  Own work: what Choose, Put, All and Some of package tables compute (walks).
-/
namespace Go.Proofs.YthoodkbdpnffdabGreatDoor
open Go.RowKit
open Cho (U64 Tab full col)

set_option maxHeartbeats 400000 in
theorem choose_calls (a b c : Nat) (w : World) (ha : U64 a) (hb : U64 b) (hc : U64 c) :
    Calls Tryz.prog 78 #[.int .u64 a, .int .u64 b, .int .u64 c] w fun e w' => e = .returned (.int .u64 (Cho.chooseT a b c : Nat)) ∧ w' = w := by
  have e1 : Hid (bits .and .u64 (a : Int) (b : Int) = ((a &&& b : Nat) : Int)) := and64 ha hb
  have e2 : Hid (bits .andNot .u64 (c : Int) (a : Int) = ((c &&& (2 ^ 64 - 1 - a) : Nat) : Int)) := andNot64 hc ha
  go_enter Tryz.func78, Tryz.ntmps78
  go_wp2
  go_ret
  exact ⟨ret_int (by rw [e1.out, e2.out, or64 (Cho.and_u64 ha) (Cho.and_u64 hc)]; rfl), rfl⟩

set_option maxHeartbeats 400000 in
theorem put_calls (t i b : Nat) (w : World) (hc : Cols w) (ht : U64 t) (h6 : i < 6) (hb : U64 b) :
    Calls Tryz.prog 96 #[.int .u64 t, .int .i64 i, .int .u64 b] w fun e w' => e = .returned (.int .u64 (Cho.putT t i b : Nat)) ∧ w' = w := by
  have HC : Hid (Cols w) := hc
  clear hc
  go_enter Tryz.func96, Tryz.ntmps96
  go_wp2_with fail
  refine (fix_calls t i true _ HC.out ht h6).mono ?_
  rintro e w1 ⟨rfl, rfl⟩
  go_wp2_with fail
  refine (fix_calls t i false _ HC.out ht h6).mono ?_
  rintro e w2 ⟨rfl, rfl⟩
  go_wp2_with fail
  refine (choose_calls b _ _ _ hb (Cho.fix_u64 t i true ht) (Cho.fix_u64 t i false ht)).mono ?_
  rintro e w3 ⟨rfl, rfl⟩
  go_wp2_with fail
  go_ret
  exact ⟨rfl, rfl⟩

theorem u8bit (x k : Nat) (hx : x < 256) : bits .and .u8 ((x : Int) / 2 ^ k) 1 = if x.testBit k then 1 else 0 := by
  have e : (x : Int) / 2 ^ k = ((x >>> k : Nat) : Int) := by rw [Nat.shiftRight_eq_div_pow]; simp
  have h : x >>> k < 256 := Nat.lt_of_le_of_lt (Nat.shiftRight_le _ _) hx
  rw [e, show (1 : Int) = ((1 : Nat) : Int) from rfl, u8_and_nat _ 1 h (by decide), Cho.testBit0_and, Cho.shr_testBit0]
  split <;> rfl

set_option maxHeartbeats 400000 in
theorem all_calls (t x : Nat) (w : World) (hc : Cols w) (ht : U64 t) (hx : x < 256) :
    Calls Tryz.prog 97 #[.int .u64 t, .int .u8 x] w fun e w' => e = .returned (.int .u64 (Cho.allTo t x 6 : Nat)) ∧ w' = w := by
  have HC : Hid (Cols w) := hc
  clear hc
  go_enter Tryz.func97, Tryz.ntmps97
  go_wp2
  go_loopw [0, 5] (fun y i wr => ∃ k : Nat, k ≤ 6 ∧ i = .int .i64 k ∧ y = .int .u64 (Cho.allTo t x k : Nat) ∧ wr = w) (fun _ i _ => 6 - (intOf i).toNat)
  case atStart => exact ⟨0, Nat.zero_le _, rfl, rfl, rfl⟩
  case round =>
    obtain ⟨k, hk, rfl, rfl, rfl⟩ := hrel
    by_cases hlt : k < 6
    · have hu := Cho.allTo_u64 t x ht k
      have HS : Hid (Cho.allTo t x (k + 1) = if x.testBit k then Cho.fix (Cho.allTo t x k) k true &&& Cho.fix (Cho.allTo t x k) k false else Cho.allTo t x k) := rfl
      generalize Cho.allTo t x k = T at *
      have hb := u8bit x k hx
      cases hx' : x.testBit k
      · rw [hx'] at hb
        simp only [Bool.false_eq_true, if_false] at hb
        go_wp2_with fail
        refine ⟨⟨k + 1, hlt, by go_num, val_int ?_, trivial⟩, by simp [intOf]; omega⟩
        rw [HS.out, hx']; rfl
      · rw [hx'] at hb
        simp only [if_true] at hb
        go_wp2_with fail
        refine (fix_calls T k true _ HC.out hu hlt).mono ?_
        rintro e w1 ⟨rfl, rfl⟩
        go_wp2_with fail
        refine (fix_calls T k false _ HC.out hu hlt).mono ?_
        rintro e w2 ⟨rfl, rfl⟩
        go_wp2_with fail
        refine ⟨⟨k + 1, hlt, by go_num, val_int ?_, trivial⟩, by simp [intOf]; omega⟩
        rw [HS.out, hx', and64 (Cho.fix_u64 _ _ _ hu) (Cho.fix_u64 _ _ _ hu)]; rfl
    · go_wp2_with fail
      go_ret
      exact ⟨ret_int (by rw [show k = 6 from by omega]), rfl⟩

set_option maxHeartbeats 400000 in
theorem some_calls (t x : Nat) (w : World) (hc : Cols w) (ht : U64 t) (hx : x < 256) :
    Calls Tryz.prog 98 #[.int .u64 t, .int .u8 x] w fun e w' => e = .returned (.int .u64 (Cho.someTo t x 6 : Nat)) ∧ w' = w := by
  have HC : Hid (Cols w) := hc
  clear hc
  go_enter Tryz.func98, Tryz.ntmps98
  go_wp2
  go_loopw [0, 5] (fun y i wr => ∃ k : Nat, k ≤ 6 ∧ i = .int .i64 k ∧ y = .int .u64 (Cho.someTo t x k : Nat) ∧ wr = w) (fun _ i _ => 6 - (intOf i).toNat)
  case atStart => exact ⟨0, Nat.zero_le _, rfl, rfl, rfl⟩
  case round =>
    obtain ⟨k, hk, rfl, rfl, rfl⟩ := hrel
    by_cases hlt : k < 6
    · have hu := Cho.someTo_u64 t x ht k
      have HS : Hid (Cho.someTo t x (k + 1) = if x.testBit k then Cho.fix (Cho.someTo t x k) k true ||| Cho.fix (Cho.someTo t x k) k false else Cho.someTo t x k) := rfl
      generalize Cho.someTo t x k = T at *
      have hb := u8bit x k hx
      cases hx' : x.testBit k
      · rw [hx'] at hb
        simp only [Bool.false_eq_true, if_false] at hb
        go_wp2_with fail
        refine ⟨⟨k + 1, hlt, by go_num, val_int ?_, trivial⟩, by simp [intOf]; omega⟩
        rw [HS.out, hx']; rfl
      · rw [hx'] at hb
        simp only [if_true] at hb
        go_wp2_with fail
        refine (fix_calls T k true _ HC.out hu hlt).mono ?_
        rintro e w1 ⟨rfl, rfl⟩
        go_wp2_with fail
        refine (fix_calls T k false _ HC.out hu hlt).mono ?_
        rintro e w2 ⟨rfl, rfl⟩
        go_wp2_with fail
        refine ⟨⟨k + 1, hlt, by go_num, val_int ?_, trivial⟩, by simp [intOf]; omega⟩
        rw [HS.out, hx', or64 (Cho.fix_u64 _ _ _ hu) (Cho.fix_u64 _ _ _ hu)]; rfl
    · go_wp2_with fail
      go_ret
      exact ⟨ret_int (by rw [show k = 6 from by omega]), rfl⟩

end Go.Proofs.YthoodkbdpnffdabGreatDoor

/-
  Own work: the program's calls in all cases, as functions of what the store is: those that make functions (walks over contracts).
-/
namespace Go.Proofs.YthoodkbdpnffdabGreatDoor
open Go.RowKit
open Cho (U64 Tab full col Nd Red)

theorem Has.vars {w : World} {s : Nat} {st : St} (h : Has w s st) : w.cell? ⟨s, 0, none⟩ = some (.int .i64 (st.n : Nat)) := by
  obtain ⟨_, _, _, _, hb, _⟩ := h.lies.ex; exact cell_of_block hb 0
/-- What a call on the store in block s leaves. -/
structure CStep (w w' : World) (s : Nat) (st' : St) : Prop where
  has : Has w' s st'
  gr : w.grownBy w' (some s)
theorem CStep.same {w w' : World} {s : Nat} {st : St} (h : Has w s st) (hb : Below w.heap.size w w') : CStep w w' s st := ⟨h.below hb, grown_of_below hb⟩
theorem CStep.before {w w1 w' : World} {s : Nat} {st' : St} (hb : Below w.heap.size w w1) (h : CStep w1 w' s st') : CStep w w' s st' := ⟨h.has, grown_trans (grown_of_below hb) h.gr⟩

theorem add_calls (s t : Nat) (st : St) (w : World) (h : Has w s st) (ht : Tab st.n t) (hg : st.given + 1 < 4294967295) :
    Calls Tryz.prog 65 #[.pointer (some ⟨s, 0, none⟩), .int .u64 t] w fun e w' => e = .returned (.tuple #[.int .u32 ((st.made t).2.1 : Nat), .int .i64 ((st.made t).2.2 : Nat)]) ∧ CStep w w' s (st.made t).1 := by
  unfold St.made
  by_cases hf : st.free < 30
  · rw [if_pos hf]
    refine (add_walk s t st w h.lies hf (ht.u64 h.inv.n6) h.few hg).mono ?_
    rintro e w' ⟨h1, h2, h3⟩
    by_cases hr : (st.added t).ns.length ≤ st.room
    · rw [if_pos hr]
      obtain ⟨rfl, h4⟩ := h2 hr
      exact ⟨rfl, ⟨h4, (added h.inv ht hf).inv, Nat.le_trans hr h.lies.room⟩, h3⟩
    · rw [if_neg hr]
      obtain ⟨rfl, h4⟩ := h1 (Nat.lt_of_not_le hr)
      exact ⟨rfl, ⟨h4, h.inv, h.few⟩, h3⟩
  · rw [if_neg hf]
    refine (add_many s t st w h.lies hf).mono ?_
    rintro e w' ⟨rfl, rfl⟩
    exact ⟨rfl, .same h (Below.refl _ _)⟩

set_option maxHeartbeats 400000 in
theorem table_no (s a : Nat) (st : St) (w : World) (h : StoreAt w s st) (hl : ¬ st.live a) :
    Calls Tryz.prog 34 #[.pointer (some ⟨s, 0, none⟩), .int .u32 a] w fun e w' => e = .returned (.tuple #[.int .u64 0, .int .i64 2]) ∧ w' = w := by
  have HR : Hid (Calls Tryz.prog 83 #[.pointer (some ⟨s, 0, none⟩), .int .u32 a] w fun e w' => e = .returned (.tuple #[.int .i64 0, .int .i64 2]) ∧ w' = w) := root_no s a st w h hl
  clear h
  go_enter Tryz.func34, Tryz.ntmps34
  go_wp2_with fail
  refine HR.out.mono ?_
  rintro e w1 ⟨rfl, rfl⟩
  go_wp2_with fail
  go_ret2
  exact ⟨rfl, rfl⟩
theorem table_some (s a f : Nat) (st : St) (w : World) (h : Has w s st) (ha : st.get a = some f) :
    Calls Tryz.prog 34 #[.pointer (some ⟨s, 0, none⟩), .int .u32 a] w fun e w' => e = .returned (.tuple #[.int .u64 (f : Nat), .int .i64 0]) ∧ Below w.heap.size w w' := by
  obtain ⟨hl, rfl⟩ := St.live_of ha
  exact table_ok s a st w h hl
theorem table_none (s a : Nat) (st : St) (w : World) (h : Has w s st) (ha : st.get a = none) :
    Calls Tryz.prog 34 #[.pointer (some ⟨s, 0, none⟩), .int .u32 a] w fun e w' => e = .returned (.tuple #[.int .u64 0, .int .i64 2]) ∧ Below w.heap.size w w' := by
  refine (table_no s a st w h.lies (St.dead_of ha)).mono ?_
  rintro e w' ⟨rfl, rfl⟩
  exact ⟨rfl, Below.refl _ _⟩
theorem sget_tab {st : St} {a f : Nat} (ha : st.get a = some f) : Tab st.n f := by
  obtain ⟨hl, rfl⟩ := St.live_of ha
  exact tab_tab st a

set_option maxHeartbeats 400000 in
theorem hasVar_yes (s n : Nat) (i : Int) (w : World) (h0 : w.cell? ⟨s, 0, none⟩ = some (.int .i64 n)) (hi : 0 ≤ i ∧ i < n) :
    Calls Tryz.prog 69 #[.pointer (some ⟨s, 0, none⟩), .int .i64 i] w fun e w' => e = .returned (.bool true) ∧ w' = w := by
  obtain ⟨k, rfl⟩ : ∃ k : Nat, i = k := ⟨i.toNat, by omega⟩
  exact hasVar_calls s k n w h0 (by omega)
set_option maxHeartbeats 400000 in
theorem hasVar_no (s n : Nat) (i : Int) (w : World) (h0 : w.cell? ⟨s, 0, none⟩ = some (.int .i64 n)) (hi : ¬ (0 ≤ i ∧ i < n)) :
    Calls Tryz.prog 69 #[.pointer (some ⟨s, 0, none⟩), .int .i64 i] w fun e w' => e = .returned (.bool false) ∧ w' = w := by
  by_cases h1 : i < 0
  · clear hi
    go_enter Tryz.func69, Tryz.ntmps69
    go_wp2_with fail
    go_ret
    exact ⟨rfl, rfl⟩
  · have h2 : 0 ≤ i := by omega
    have h3 : ¬ i < (n : Int) := by omega
    have h4 : decide (i < (n : Int)) = false := by simp; omega
    have H4 : Hid (decide (i < (n : Int)) = false) := h4
    clear hi h1 h4
    go_enter Tryz.func69, Tryz.ntmps69
    go_wp2_with fail
    go_ret
    refine ⟨ret_bool ?_, rfl⟩
    first | rfl | exact H4.out

set_option maxHeartbeats 1000000 in
theorem const_calls (s : Nat) (v : Bool) (st : St) (w : World) (h : Has w s st) (hg : st.given + 1 < 4294967295) :
    Calls Tryz.prog 19 #[.pointer (some ⟨s, 0, none⟩), .bool v] w fun e w' => e = .returned (.tuple #[.int .u32 ((st.made (if v then full st.n else 0)).2.1 : Nat), .int .i64 ((st.made (if v then full st.n else 0)).2.2 : Nat)]) ∧ CStep w w' s (st.made (if v then full st.n else 0)).1 := by
  have H : Hid (Has w s st) := h
  clear h
  cases v
  · go_enter Tryz.func19, Tryz.ntmps19
    go_wp2_with fail
    refine (add_calls s 0 st _ H.out (Nat.two_pow_pos _) hg).mono ?_
    rintro e w1 ⟨rfl, h1⟩
    have H1 : Hid _ := h1
    clear h1
    go_wp2_with fail
    go_ret2
    exact ⟨rfl, H1.out⟩
  · go_enter Tryz.func19, Tryz.ntmps19
    go_wp2_with fail
    refine (sfull_calls s st.n _ H.out.vars H.out.inv.n6).mono ?_
    rintro e w1 ⟨rfl, rfl⟩
    go_wp2_with fail
    refine (add_calls s (full st.n) st _ H.out (Cho.full_tab _) hg).mono ?_
    rintro e w2 ⟨rfl, h1⟩
    have H1 : Hid _ := h1
    clear h1
    go_wp2_with fail
    go_ret2
    exact ⟨rfl, H1.out⟩

def St.var (st : St) (i : Int) : St × Nat × Nat := if 0 ≤ i ∧ i < st.n then st.made (col i.toNat &&& full st.n) else (st, 0, 1)
set_option maxHeartbeats 1000000 in
theorem var_calls (s : Nat) (i : Int) (st : St) (w : World) (h : Has w s st) (hg : st.given + 1 < 4294967295) :
    Calls Tryz.prog 22 #[.pointer (some ⟨s, 0, none⟩), .int .i64 i] w fun e w' => e = .returned (.tuple #[.int .u32 ((st.var i).2.1 : Nat), .int .i64 ((st.var i).2.2 : Nat)]) ∧ CStep w w' s (st.var i).1 := by
  have H : Hid (Has w s st) := h
  have hn := h.inv.n6
  have h0 := h.vars
  clear h
  by_cases hi : 0 ≤ i ∧ i < st.n
  · have HI : Hid (0 ≤ i ∧ i < st.n) := hi
    have HV : Hid (st.var i = st.made (col i.toNat &&& full st.n)) := if_pos hi
    obtain ⟨k, rfl⟩ : ∃ k : Nat, i = k := ⟨i.toNat, by omega⟩
    rw [Int.toNat_natCast] at HV
    have hk : k < st.n := by omega
    have HT : Hid (Tab st.n (col k &&& full st.n)) := Nat.lt_of_le_of_lt Nat.and_le_right (Cho.full_tab _)
    clear hi
    go_enter Tryz.func22, Tryz.ntmps22
    go_wp2_with fail
    refine (hasVar_yes s st.n k _ H.out.vars HI.out).mono ?_
    rintro e w1 ⟨rfl, rfl⟩
    go_wp2_with fail
    refine (variable_calls k st.n _ H.out.lies.cols (by omega) hn).mono ?_
    rintro e w2 ⟨rfl, q, rfl⟩
    have B2 : Hid (Below w1.heap.size w1 (w1.drewN q)) := below_dr _ _
    generalize w1.drewN q = w2 at *
    go_wp2_with fail
    refine (add_calls s _ st _ (H.out.below B2.out) HT.out hg).mono ?_
    rintro e w3 ⟨rfl, h1⟩
    have H1 : Hid _ := h1
    clear h1
    go_wp2_with fail
    go_ret2
    rw [HV.out]
    exact ⟨rfl, H1.out.before B2.out⟩
  · have HI : Hid (¬ (0 ≤ i ∧ i < st.n)) := hi
    have HV : Hid (st.var i = (st, 0, 1)) := if_neg hi
    clear hi
    go_enter Tryz.func22, Tryz.ntmps22
    go_wp2_with fail
    refine (hasVar_no s st.n i _ H.out.vars HI.out).mono ?_
    rintro e w1 ⟨rfl, rfl⟩
    go_wp2_with fail
    go_ret2
    rw [HV.out]
    exact ⟨rfl, .same H.out (Below.refl _ _)⟩

def St.make (st : St) (t : Nat) : St × Nat × Nat := if t ≤ full st.n then st.made t else (st, 0, 1)
set_option maxHeartbeats 1000000 in
theorem make_calls (s t : Nat) (st : St) (w : World) (h : Has w s st) (hg : st.given + 1 < 4294967295) :
    Calls Tryz.prog 24 #[.pointer (some ⟨s, 0, none⟩), .int .u64 t] w fun e w' => e = .returned (.tuple #[.int .u32 ((st.make t).2.1 : Nat), .int .i64 ((st.make t).2.2 : Nat)]) ∧ CStep w w' s (st.make t).1 := by
  have H : Hid (Has w s st) := h
  clear h
  by_cases hi : t ≤ full st.n
  · have HV : Hid (st.make t = st.made t) := if_pos hi
    have HT : Hid (Tab st.n t) := by have := Cho.full_tab st.n; show t < 2 ^ 2 ^ st.n; unfold Cho.Tab at this; omega
    have hb : ¬ ((full st.n : Nat) : Int) < (t : Int) := by omega
    go_enter Tryz.func24, Tryz.ntmps24
    go_wp2_with fail
    refine (sfull_calls s st.n _ H.out.vars H.out.inv.n6).mono ?_
    rintro e w1 ⟨rfl, rfl⟩
    go_wp2_with fail
    refine (add_calls s t st _ H.out HT.out hg).mono ?_
    rintro e w3 ⟨rfl, h1⟩
    have H1 : Hid _ := h1
    clear h1
    go_wp2_with fail
    go_ret2
    rw [HV.out]
    exact ⟨rfl, H1.out⟩
  · have HV : Hid (st.make t = (st, 0, 1)) := if_neg hi
    have hb : ((full st.n : Nat) : Int) < (t : Int) := by omega
    go_enter Tryz.func24, Tryz.ntmps24
    go_wp2_with fail
    refine (sfull_calls s st.n _ H.out.vars H.out.inv.n6).mono ?_
    rintro e w1 ⟨rfl, rfl⟩
    go_wp2_with fail
    go_ret2
    rw [HV.out]
    exact ⟨rfl, .same H.out (Below.refl _ _)⟩

def St.apply (st : St) (c : Int) (a b : Nat) : St × Nat × Nat :=
  if 0 ≤ c ∧ c ≤ 15 then
    match st.get a, st.get b with
    | some x, some y => st.made (Cho.joinT c.toNat x y (full st.n))
    | _, _ => (st, 0, 2)
  else (st, 0, 1)
set_option maxRecDepth 100000 in
set_option maxHeartbeats 2000000 in
theorem apply_calls (s a b : Nat) (c : Int) (st : St) (w : World) (h : Has w s st) (hg : st.given + 1 < 4294967295) :
    Calls Tryz.prog 26 #[.pointer (some ⟨s, 0, none⟩), .int .i64 c, .int .u32 a, .int .u32 b] w fun e w' => e = .returned (.tuple #[.int .u32 ((st.apply c a b).2.1 : Nat), .int .i64 ((st.apply c a b).2.2 : Nat)]) ∧ CStep w w' s (st.apply c a b).1 := by
  have H : Hid (Has w s st) := h
  have hn := h.inv.n6
  clear h
  by_cases hc : 0 ≤ c ∧ c ≤ 15
  · obtain ⟨k, rfl⟩ : ∃ k : Nat, c = k := ⟨c.toNat, by omega⟩
    have hk : k < 16 := by omega
    cases ha : st.get a with
    | none =>
      have HGa : Hid (st.get a = none) := ha
      cases hb : st.get b with
      | none =>
        have HGb : Hid (st.get b = none) := hb
        have E : Hid (st.apply k a b = (st, 0, 2)) := by show st.apply k a b = _; unfold St.apply; rw [if_pos hc, ha]; try rw [hb]
        clear ha hb hc
        go_enter Tryz.func26, Tryz.ntmps26
        go_wp2_with fail
        refine (table_none s a st _ H.out HGa.out).mono ?_
        rintro e wt0 ⟨rfl, bt0⟩
        have HT0 : Hid (Has wt0 s st) := H.out.below bt0
        have BT0 : Hid (Below w.heap.size w wt0) := bt0
        clear bt0
        go_wp2_with fail
        refine (table_none s b st _ HT0.out HGb.out).mono ?_
        rintro e wt1 ⟨rfl, bt1⟩
        have HT1 : Hid (Has wt1 s st) := HT0.out.below bt1
        have BT1 : Hid (Below w.heap.size w wt1) := below_trans BT0.out bt1
        clear bt1
        go_wp2_with fail
        go_ret2
        rw [E.out]
        exact ⟨rfl, .same H.out BT1.out⟩
      | some g =>
        have HGb : Hid (st.get b = some g) := hb
        have E : Hid (st.apply k a b = (st, 0, 2)) := by show st.apply k a b = _; unfold St.apply; rw [if_pos hc, ha]; try rw [hb]
        clear ha hb hc
        go_enter Tryz.func26, Tryz.ntmps26
        go_wp2_with fail
        refine (table_none s a st _ H.out HGa.out).mono ?_
        rintro e wt0 ⟨rfl, bt0⟩
        have HT0 : Hid (Has wt0 s st) := H.out.below bt0
        have BT0 : Hid (Below w.heap.size w wt0) := bt0
        clear bt0
        go_wp2_with fail
        refine (table_some s b g st _ HT0.out HGb.out).mono ?_
        rintro e wt1 ⟨rfl, bt1⟩
        have HT1 : Hid (Has wt1 s st) := HT0.out.below bt1
        have BT1 : Hid (Below w.heap.size w wt1) := below_trans BT0.out bt1
        clear bt1
        go_wp2_with fail
        go_ret2
        rw [E.out]
        exact ⟨rfl, .same H.out BT1.out⟩
    | some f =>
      have HGa : Hid (st.get a = some f) := ha
      cases hb : st.get b with
      | none =>
        have HGb : Hid (st.get b = none) := hb
        have E : Hid (st.apply k a b = (st, 0, 2)) := by show st.apply k a b = _; unfold St.apply; rw [if_pos hc, ha]; try rw [hb]
        clear ha hb hc
        go_enter Tryz.func26, Tryz.ntmps26
        go_wp2_with fail
        refine (table_some s a f st _ H.out HGa.out).mono ?_
        rintro e wt0 ⟨rfl, bt0⟩
        have HT0 : Hid (Has wt0 s st) := H.out.below bt0
        have BT0 : Hid (Below w.heap.size w wt0) := bt0
        clear bt0
        go_wp2_with fail
        refine (table_none s b st _ HT0.out HGb.out).mono ?_
        rintro e wt1 ⟨rfl, bt1⟩
        have HT1 : Hid (Has wt1 s st) := HT0.out.below bt1
        have BT1 : Hid (Below w.heap.size w wt1) := below_trans BT0.out bt1
        clear bt1
        go_wp2_with fail
        go_ret2
        rw [E.out]
        exact ⟨rfl, .same H.out BT1.out⟩
      | some g =>
        have HGb : Hid (st.get b = some g) := hb
        have E : Hid (st.apply k a b = st.made (Cho.joinT k f g (full st.n))) := by show st.apply k a b = _; unfold St.apply; rw [if_pos hc, ha, hb]; rfl
        have tf := sget_tab ha
        have tg := sget_tab hb
        have HJ : Hid (Tab st.n (Cho.joinT k f g (full st.n))) := Cho.joinT_tab k f g _ tf tg
        have uf := tf.u64 hn
        have ug := tg.u64 hn
        clear tf tg
        clear ha hb hc
        go_enter Tryz.func26, Tryz.ntmps26
        go_wp2_with fail
        refine (table_some s a f st _ H.out HGa.out).mono ?_
        rintro e wt0 ⟨rfl, bt0⟩
        have HT0 : Hid (Has wt0 s st) := H.out.below bt0
        have BT0 : Hid (Below w.heap.size w wt0) := bt0
        clear bt0
        go_wp2_with fail
        refine (table_some s b g st _ HT0.out HGb.out).mono ?_
        rintro e wt1 ⟨rfl, bt1⟩
        have HT1 : Hid (Has wt1 s st) := HT0.out.below bt1
        have BT1 : Hid (Below w.heap.size w wt1) := below_trans BT0.out bt1
        clear bt1
        go_wp2_with fail
        refine (sfull_calls s st.n _ HT1.out.vars hn).mono ?_
        rintro e w3 ⟨rfl, rfl⟩
        go_wp2_with fail
        refine (join_calls k _ _ _ _ hk uf ug (Cho.full_u64 _ hn)).mono ?_
        rintro e w4 ⟨rfl, rfl⟩
        go_wp2_with fail
        refine (add_calls s _ st _ HT1.out HJ.out hg).mono ?_
        rintro e w5 ⟨rfl, h1⟩
        have H1 : Hid _ := h1
        clear h1
        go_wp2_with fail
        go_ret2
        rw [E.out]
        exact ⟨rfl, H1.out.before BT1.out⟩
  · have E : Hid (st.apply c a b = (st, 0, 1)) := if_neg hc
    by_cases h0 : c < 0
    · clear hc
      go_enter Tryz.func26, Tryz.ntmps26
      go_wp2_with fail
      go_ret2
      rw [E.out]
      exact ⟨rfl, .same H.out (Below.refl _ _)⟩
    · have h15 : 15 < c := by omega
      have h0' : 0 ≤ c := by omega
      clear hc h0
      go_enter Tryz.func26, Tryz.ntmps26
      go_wp2_with fail
      go_ret2
      rw [E.out]
      exact ⟨rfl, .same H.out (Below.refl _ _)⟩
end Go.Proofs.YthoodkbdpnffdabGreatDoor
