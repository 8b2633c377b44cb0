/-
  Own work: a store of the program and one of the document's answer that say the same (plain mathematics).
-/
import Derived.Test.YthoodkbdpnffdaaGreatDoorRefA
import Derived.Test.YthoodkbdpnffdaaGreatDoorRefR
import Derived.Test.YthoodkbdpnffdaaGreatDoorPlainD
import Derived.Test.YthoodkbdpnffdaaGreatDoorPlainL
namespace Go.Proofs.YthoodkbdpnffdaaGreatDoor
open Cho (U64 Tab full col Nd Red)

def St.get (st : St) (a : Nat) : Option Nat := if st.slot a < 30 then some (st.tab a) else none
theorem St.get_live {st : St} {a : Nat} (h : st.live a) : st.get a = some (st.tab a) := if_pos h
theorem St.get_dead {st : St} {a : Nat} (h : ¬ st.live a) : st.get a = none := if_neg h
theorem St.live_of {st : St} {a f : Nat} (h : st.get a = some f) : st.live a ∧ st.tab a = f := by
  unfold St.get at h
  split at h
  · rename_i hl; exact ⟨hl, by simpa using h⟩
  · cases h
theorem St.dead_of {st : St} {a : Nat} (h : st.get a = none) : ¬ st.live a := by
  unfold St.get at h
  split at h
  · cases h
  · rename_i hl; exact hl

/-- They say the same. -/
structure Sim (st : St) (r : RSt) : Prop where
  inv : Inv st
  cl : Clean st
  few : st.ns.length ≤ 4000
  ok : RefOk r
  n : r.n = st.n
  room : r.room = st.room
  given : r.given = st.given
  ord : r.ord = st.ord
  get : ∀ a, st.get a = r.get a

section
variable {st : St} {r : RSt}
theorem Sim.live (h : Sim st r) (a : Nat) : st.live a ↔ a ∈ r.hs := by
  have hg := h.get a
  constructor
  · intro hl
    rw [St.get_live hl] at hg
    exact get_mem hg.symm
  · intro hm
    apply Classical.byContradiction
    intro hd
    rw [St.get_dead hd] at hg
    exact get_none hg.symm hm
theorem Sim.tabs (h : Sim st r) : r.hs.map st.tab = r.ts := by
  apply List.ext_getElem
  · simp [RSt.hs, RSt.ts]
  · intro i h1 h2
    have hi : i < r.L.length := by simpa [RSt.hs] using h1
    have hg := h.get r.L[i].1
    rw [get_at h.ok hi] at hg
    have := (St.live_of hg).2
    simpa [RSt.hs, RSt.ts] using this
theorem Sim.used (h : Sim st r) : r.used = st.ns.length := by
  unfold RSt.used
  rw [h.n, h.ord, ← h.tabs]
  exact nodes_live h.inv h.cl r.hs (fun a ha => (h.live a).2 ha) (fun a ha => (h.live a).1 ha)
theorem Sim.size (h : Sim st r) {a f : Nat} (ha : r.get a = some f) : r.size f = st.size a := by
  rw [← h.get a] at ha
  obtain ⟨hl, rfl⟩ := St.live_of ha
  unfold RSt.size
  rw [h.n, h.ord]
  exact nodes_one h.inv hl
/-- A slot is free where fewer than thirty are live. -/
theorem Sim.free (h : Sim st r) : r.L.length < 30 ↔ st.free < 30 := by
  have hl : r.L.length = (st.hs.filter (· != 0)).length := by
    have e : r.L.length = r.hs.length := by simp [RSt.hs]
    rw [e]
    apply List.Perm.length_eq
    rw [List.perm_ext_iff_of_nodup h.ok.nodup]
    · intro a
      rw [← h.live a]
      constructor
      · intro hl
        obtain ⟨hk, e⟩ := slot_at h.inv hl
        have h0 := (slot_lt hl).2
        rw [List.mem_filter]
        exact ⟨by rw [← e]; exact List.getElem_mem hk, by simpa using h0⟩
      · intro hm
        rw [List.mem_filter] at hm
        have h0 : a ≠ 0 := by simpa using hm.2
        unfold St.live St.slot
        rw [if_neg h0, ← h.inv.hs30]
        exact List.idxOf_lt_length_iff.2 hm.1
    · have key : ∀ (l : List Nat), (∀ i j (hi : i < l.length) (hj : j < l.length), l[i] = l[j] → l[i] ≠ 0 → i = j) → (l.filter (· != 0)).Nodup := by
        intro l
        induction l with
        | nil => intro _; simp
        | cons b l ih =>
          intro hd
          have ihl := ih (fun i j hi hj e hne => by
            have := hd (i + 1) (j + 1) (by simp; omega) (by simp; omega) (by simpa using e) (by simpa using hne)
            omega)
          rw [List.filter_cons]
          split
          · rename_i hb
            rw [List.nodup_cons]
            refine ⟨?_, ihl⟩
            intro hm
            rw [List.mem_filter] at hm
            obtain ⟨j, hj, e⟩ := List.getElem_of_mem hm.1
            have := hd 0 (j + 1) (by simp) (by simp; omega) (by simpa using e.symm) (by simpa using hb)
            omega
          · exact ihl
      exact key st.hs h.cl.nd
  have hsplit : (st.hs.filter (· != 0)).length + (st.hs.filter (· == 0)).length = 30 := by
    rw [← h.inv.hs30]
    have : ∀ (l : List Nat), (l.filter (· != 0)).length + (l.filter (· == 0)).length = l.length := by
      intro l
      induction l with
      | nil => rfl
      | cons b l ih =>
        rw [List.filter_cons, List.filter_cons]
        by_cases hb : b = 0
        · subst hb; simp; omega
        · simp [hb]; omega
    exact this st.hs
  have hz : st.free < 30 ↔ 0 ∈ st.hs := by
    unfold St.free
    rw [← h.inv.hs30]
    exact List.idxOf_lt_length_iff
  rw [hz, hl]
  constructor
  · intro hlt
    have : (st.hs.filter (· == 0)) ≠ [] := by
      intro e; rw [e] at hsplit; simp at hsplit; omega
    obtain ⟨x, hx⟩ := List.exists_mem_of_ne_nil _ this
    rw [List.mem_filter] at hx
    have : x = 0 := by simpa using hx.2
    rw [← this]; exact hx.1
  · intro hm
    have hx : 0 ∈ st.hs.filter (· == 0) := by rw [List.mem_filter]; exact ⟨hm, rfl⟩
    have := List.length_pos_of_mem hx
    omega
end

/-- A function more, or why not. -/
def St.made (st : St) (t : Nat) : St × Nat × Nat :=
  if st.free < 30 then if (st.added t).ns.length ≤ st.room then (st.added t, st.given + 1, 0) else (st, 0, 4) else (st, 0, 3)
theorem push_get {r : RSt} (h : RefOk r) (t a : Nat) : (r.push t).get a = if a = r.given + 1 then some t else r.get a := by
  unfold RSt.get RSt.push
  simp only [List.find?_append]
  by_cases e : a = r.given + 1
  · subst e
    rw [if_pos rfl]
    have hn : r.L.find? (fun p => p.1 == r.given + 1) = none := by
      rw [List.find?_eq_none]
      intro p hp hc
      have := h.hs p.1 (List.mem_map_of_mem hp)
      simp at hc; omega
    rw [hn]; simp
  · rw [if_neg e]
    have hn : [(r.given + 1, t)].find? (fun p => p.1 == a) = none := by
      rw [List.find?_eq_none]
      intro p hp hc
      simp at hp; subst hp
      simp at hc; omega
    rw [hn]; simp
theorem sim_push {st : St} {r : RSt} {t : Nat} (h : Sim st r) (ht : Tab st.n t) (hf : st.free < 30) (hg : st.given + 1 < 4294967295) (hr : (st.added t).ns.length ≤ st.room) : Sim (st.added t) (r.push t) := by
  have ha := added h.inv ht hf
  have hok : RefOk (r.push t) := push_ok h.ok (h.free.2 hf) (by rw [h.n]; exact ht) (by rw [h.given]; omega)
  refine ⟨ha.inv, clean_added h.inv h.cl t hf, ?_, hok, h.n, h.room, by simp [RSt.push, St.added, h.given], h.ord, ?_⟩
  · have := h.ok.room; rw [h.room] at this; omega
  · intro a
    rw [push_get h.ok, h.given]
    by_cases e : a = st.given + 1
    · subst e
      rw [if_pos rfl, St.get_live ha.new, ha.tab]
    · rw [if_neg e, ← h.get a]
      by_cases hl : st.live a
      · obtain ⟨o1, _, o2⟩ := ha.old a hl
        rw [St.get_live o1, St.get_live hl, o2]
      · rw [St.get_dead hl]
        apply St.get_dead
        intro hl'
        rcases hs_added h.inv hl' with h' | h'
        · exact hl h'
        · exact e h'
theorem sim_need {st : St} {r : RSt} {t : Nat} (h : Sim st r) (ht : Tab st.n t) (hf : st.free < 30) : r.need t = (st.added t).ns.length := by
  have ha := added h.inv ht hf
  have hc := clean_added h.inv h.cl t hf
  have hq : ∀ a, (st.added t).live a ↔ a ∈ r.hs ++ [st.given + 1] := by
    intro a
    rw [List.mem_append, ← h.live a]
    constructor
    · intro hl
      rcases hs_added h.inv hl with h' | h'
      · exact .inl h'
      · exact .inr (by simp [h'])
    · rintro (hl | hm)
      · exact (ha.old a hl).1
      · simp at hm; subst hm; exact ha.new
  have := nodes_live ha.inv hc (r.hs ++ [st.given + 1]) (fun a hm => (hq a).2 hm) (fun a hl => (hq a).1 hl)
  have e : (r.hs ++ [st.given + 1]).map (st.added t).tab = r.ts ++ [t] := by
    rw [List.map_append, ← h.tabs]
    congr 1
    · apply List.map_congr_left
      intro a hm
      exact (ha.old a ((h.live a).2 hm)).2.2
    · simp [ha.tab]
  rw [e] at this
  unfold RSt.need
  rw [h.n, h.ord]
  exact this
/-- MAKING. -/
theorem sim_made {st : St} {r : RSt} {t : Nat} (h : Sim st r) (ht : Tab st.n t) (hg : st.given + 1 < 4294967295) : (st.made t).2 = (r.made t).2 ∧ Sim (st.made t).1 (r.made t).1 := by
  unfold St.made RSt.made
  by_cases hf : st.free < 30
  · rw [if_pos hf, if_pos (h.free.2 hf), sim_need h ht hf, h.room]
    by_cases hr : (st.added t).ns.length ≤ st.room
    · rw [if_pos hr, if_pos hr]
      exact ⟨by rw [h.given], sim_push h ht hf hg hr⟩
    · rw [if_neg hr, if_neg hr]; exact ⟨rfl, h⟩
  · rw [if_neg hf, if_neg (fun hl => hf (h.free.1 hl))]; exact ⟨rfl, h⟩
/-- GIVING BACK. -/
theorem drop_get {r : RSt} (a b : Nat) : (r.drop a).get b = if b = a then none else r.get b := by
  unfold RSt.get RSt.drop
  simp only [List.find?_filter]
  by_cases e : b = a
  · subst e
    rw [if_pos rfl]
    have : r.L.find? (fun p => decide ((p.1 != b) = true ∧ (p.1 == b) = true)) = none := by
      rw [List.find?_eq_none]; intro p _; simp
    rw [this]; rfl
  · rw [if_neg e]
    congr 1
    congr 1
    funext p
    by_cases hp : p.1 = b
    · simp [hp, e]
    · simp [hp]
theorem sim_drop {st : St} {r : RSt} {a : Nat} (h : Sim st r) (hl : st.live a) : Sim (st.released a) (r.drop a) := by
  have hf := freed h.inv h.cl hl
  refine ⟨hf.inv, hf.cl, Nat.le_trans hf.len h.few, drop_ok h.ok a, h.n, h.room, h.given, h.ord, ?_⟩
  intro b
  rw [drop_get]
  by_cases e : b = a
  · subst e
    rw [if_pos rfl]
    exact St.get_dead hf.gone
  · rw [if_neg e, ← h.get b]
    by_cases hb : st.live b
    · obtain ⟨h1, h2⟩ := hf.old b e hb
      rw [St.get_live h1, St.get_live hb, h2]
    · rw [St.get_dead hb]
      exact St.get_dead (fun hb' => hb (hf.only b hb').1)
theorem sim_empty {n room : Nat} (h1 : 1 ≤ n) (h6 : n ≤ 6) (hr : room ≤ 4000) : Sim (St.empty n room) (RSt.empty n room) := by
  refine ⟨inv_empty n room h1 h6, clean_empty n room, by simp [St.empty], empty_ok h1 h6 hr, rfl, rfl, rfl, rfl, ?_⟩
  intro a
  have : (RSt.empty n room).get a = none := by simp [RSt.get, RSt.empty]
  rw [this]
  apply St.get_dead
  intro hl
  obtain ⟨e1, e0⟩ := slot_lt hl
  have hm : a ∈ (St.empty n room).hs := by
    apply List.idxOf_lt_length_iff.1
    rw [← e1, (inv_empty n room h1 h6).hs30]; exact hl
  simp [St.empty] at hm
  exact e0 hm
end Go.Proofs.YthoodkbdpnffdaaGreatDoor

/-
  Own work: what Choose, Put, All and Some of package tables compute (walks).
-/
namespace Go.Proofs.YthoodkbdpnffdaaGreatDoor
open Go.RowKit
open Cho (U64 Tab full col)

set_option maxHeartbeats 400000 in
theorem choose_calls (a b c : Nat) (w : World) (ha : U64 a) (hb : U64 b) (hc : U64 c) :
    Calls Tryz.prog 80 #[.int .u64 a, .int .u64 b, .int .u64 c] w fun e w' => e = .returned (.int .u64 (Cho.chooseT a b c : Nat)) ∧ w' = w := by
  have e1 : Hid (bits .and .u64 (a : Int) (b : Int) = ((a &&& b : Nat) : Int)) := and64 ha hb
  have e2 : Hid (bits .andNot .u64 (c : Int) (a : Int) = ((c &&& (2 ^ 64 - 1 - a) : Nat) : Int)) := andNot64 hc ha
  go_enter Tryz.func80, Tryz.ntmps80
  go_wp2
  go_ret
  exact ⟨ret_int (by rw [e1.out, e2.out, or64 (Cho.and_u64 ha) (Cho.and_u64 hc)]; rfl), rfl⟩

set_option maxHeartbeats 400000 in
theorem put_calls (t i b : Nat) (w : World) (hc : Cols w) (ht : U64 t) (h6 : i < 6) (hb : U64 b) :
    Calls Tryz.prog 98 #[.int .u64 t, .int .i64 i, .int .u64 b] w fun e w' => e = .returned (.int .u64 (Cho.putT t i b : Nat)) ∧ w' = w := by
  have HC : Hid (Cols w) := hc
  clear hc
  go_enter Tryz.func98, Tryz.ntmps98
  go_wp2_with fail
  refine (fix_calls t i true _ HC.out ht h6).mono ?_
  rintro e w1 ⟨rfl, rfl⟩
  go_wp2_with fail
  refine (fix_calls t i false _ HC.out ht h6).mono ?_
  rintro e w2 ⟨rfl, rfl⟩
  go_wp2_with fail
  refine (choose_calls b _ _ _ hb (Cho.fix_u64 t i true ht) (Cho.fix_u64 t i false ht)).mono ?_
  rintro e w3 ⟨rfl, rfl⟩
  go_wp2_with fail
  go_ret
  exact ⟨rfl, rfl⟩

theorem u8bit (x k : Nat) (hx : x < 256) : bits .and .u8 ((x : Int) / 2 ^ k) 1 = if x.testBit k then 1 else 0 := by
  have e : (x : Int) / 2 ^ k = ((x >>> k : Nat) : Int) := by rw [Nat.shiftRight_eq_div_pow]; simp
  have h : x >>> k < 256 := Nat.lt_of_le_of_lt (Nat.shiftRight_le _ _) hx
  rw [e, show (1 : Int) = ((1 : Nat) : Int) from rfl, u8_and_nat _ 1 h (by decide), Cho.testBit0_and, Cho.shr_testBit0]
  split <;> rfl

set_option maxHeartbeats 400000 in
theorem all_calls (t x : Nat) (w : World) (hc : Cols w) (ht : U64 t) (hx : x < 256) :
    Calls Tryz.prog 99 #[.int .u64 t, .int .u8 x] w fun e w' => e = .returned (.int .u64 (Cho.allTo t x 6 : Nat)) ∧ w' = w := by
  have HC : Hid (Cols w) := hc
  clear hc
  go_enter Tryz.func99, Tryz.ntmps99
  go_wp2
  go_loopw [0, 5] (fun y i wr => ∃ k : Nat, k ≤ 6 ∧ i = .int .i64 k ∧ y = .int .u64 (Cho.allTo t x k : Nat) ∧ wr = w) (fun _ i _ => 6 - (intOf i).toNat)
  case atStart => exact ⟨0, Nat.zero_le _, rfl, rfl, rfl⟩
  case round =>
    obtain ⟨k, hk, rfl, rfl, rfl⟩ := hrel
    by_cases hlt : k < 6
    · have hu := Cho.allTo_u64 t x ht k
      have HS : Hid (Cho.allTo t x (k + 1) = if x.testBit k then Cho.fix (Cho.allTo t x k) k true &&& Cho.fix (Cho.allTo t x k) k false else Cho.allTo t x k) := rfl
      generalize Cho.allTo t x k = T at *
      have hb := u8bit x k hx
      cases hx' : x.testBit k
      · rw [hx'] at hb
        simp only [Bool.false_eq_true, if_false] at hb
        go_wp2_with fail
        refine ⟨⟨k + 1, hlt, by go_num, val_int ?_, trivial⟩, by simp [intOf]; omega⟩
        rw [HS.out, hx']; rfl
      · rw [hx'] at hb
        simp only [if_true] at hb
        go_wp2_with fail
        refine (fix_calls T k true _ HC.out hu hlt).mono ?_
        rintro e w1 ⟨rfl, rfl⟩
        go_wp2_with fail
        refine (fix_calls T k false _ HC.out hu hlt).mono ?_
        rintro e w2 ⟨rfl, rfl⟩
        go_wp2_with fail
        refine ⟨⟨k + 1, hlt, by go_num, val_int ?_, trivial⟩, by simp [intOf]; omega⟩
        rw [HS.out, hx', and64 (Cho.fix_u64 _ _ _ hu) (Cho.fix_u64 _ _ _ hu)]; rfl
    · go_wp2_with fail
      go_ret
      exact ⟨ret_int (by rw [show k = 6 from by omega]), rfl⟩

set_option maxHeartbeats 400000 in
theorem some_calls (t x : Nat) (w : World) (hc : Cols w) (ht : U64 t) (hx : x < 256) :
    Calls Tryz.prog 100 #[.int .u64 t, .int .u8 x] w fun e w' => e = .returned (.int .u64 (Cho.someTo t x 6 : Nat)) ∧ w' = w := by
  have HC : Hid (Cols w) := hc
  clear hc
  go_enter Tryz.func100, Tryz.ntmps100
  go_wp2
  go_loopw [0, 5] (fun y i wr => ∃ k : Nat, k ≤ 6 ∧ i = .int .i64 k ∧ y = .int .u64 (Cho.someTo t x k : Nat) ∧ wr = w) (fun _ i _ => 6 - (intOf i).toNat)
  case atStart => exact ⟨0, Nat.zero_le _, rfl, rfl, rfl⟩
  case round =>
    obtain ⟨k, hk, rfl, rfl, rfl⟩ := hrel
    by_cases hlt : k < 6
    · have hu := Cho.someTo_u64 t x ht k
      have HS : Hid (Cho.someTo t x (k + 1) = if x.testBit k then Cho.fix (Cho.someTo t x k) k true ||| Cho.fix (Cho.someTo t x k) k false else Cho.someTo t x k) := rfl
      generalize Cho.someTo t x k = T at *
      have hb := u8bit x k hx
      cases hx' : x.testBit k
      · rw [hx'] at hb
        simp only [Bool.false_eq_true, if_false] at hb
        go_wp2_with fail
        refine ⟨⟨k + 1, hlt, by go_num, val_int ?_, trivial⟩, by simp [intOf]; omega⟩
        rw [HS.out, hx']; rfl
      · rw [hx'] at hb
        simp only [if_true] at hb
        go_wp2_with fail
        refine (fix_calls T k true _ HC.out hu hlt).mono ?_
        rintro e w1 ⟨rfl, rfl⟩
        go_wp2_with fail
        refine (fix_calls T k false _ HC.out hu hlt).mono ?_
        rintro e w2 ⟨rfl, rfl⟩
        go_wp2_with fail
        refine ⟨⟨k + 1, hlt, by go_num, val_int ?_, trivial⟩, by simp [intOf]; omega⟩
        rw [HS.out, hx', or64 (Cho.fix_u64 _ _ _ hu) (Cho.fix_u64 _ _ _ hu)]; rfl
    · go_wp2_with fail
      go_ret
      exact ⟨ret_int (by rw [show k = 6 from by omega]), rfl⟩

end Go.Proofs.YthoodkbdpnffdaaGreatDoor
