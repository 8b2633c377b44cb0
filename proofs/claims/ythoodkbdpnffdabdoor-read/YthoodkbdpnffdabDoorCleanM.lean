/-
  Own work: 'Release' gives a handle back and leaves the nodes that are called for (walks).
-/
import Derived.Test.YthoodkbdpnffdabDoorKeepA
import Derived.Test.YthoodkbdpnffdabDoorTakeW
import Derived.Test.YthoodkbdpnffdabDoorInv
import Derived.Test.YthoodkbdpnffdabDoorPlainK
namespace Go.Proofs.YthoodkbdpnffdabDoor
open Go.RowKit
open Cho (U64 Tab full col Nd Red)

def St.rel1 (st : St) (a : Nat) : St := { st with hs := st.hs.set (st.slot a) 0, rs := st.rs.set (st.slot a) 0 }
/-- The store that 'Release' leaves. -/
def St.released (st : St) (a : Nat) : St := { st.rel1 a with rs := (st.rel1 a).rs.map (Cho.moved st.ns (st.rel1 a).rs), ns := Cho.kept st.ns (st.rel1 a).rs }

/-- What holds behind the statement that keeps, whatever its order. -/
structure Kp (W V : World) (q s : Nat) (ov kv lw : Value) (ks : List Nd) (ls : List Nat) : Prop where
  dia : V.heap[q]? = some (.cells #[ov, kv] 51 (0, 0))
  lo : W.heap.size ≤ q
  row : V.ownsRow W.heap.size 78 3 kv ks.length (flat ks)
  row2 : V.ownsRow W.heap.size 46 1 lw ls.length (lv ls)
  bel : Below W.heap.size W V
theorem kp_a {W w' : World} {s : Nat} {ov kv lw : Value} {ks : List Nd} {ls : List Nat} (hr : w'.ownsRow W.drew.heap.size 78 3 kv ks.length (flat ks)) (hl : w'.ownsRow W.drew.heap.size 46 1 lw ls.length (lv ls)) (hb : Below W.drew.heap.size W.drew w') :
    Kp W (w'.alloc (.cells #[ov, kv] 51)) w'.heap.size s ov kv lw ks ls := by
  have hs := hb.size
  exact ⟨heap_res _ _, hs, hr.alloc _, hl.alloc _, ((Below.refl _ W).drew.trans hb).alloc hs _⟩
theorem kp_b {W w' : World} {s : Nat} {ov kv lw : Value} {ks : List Nd} {ls : List Nat} (hr : w'.ownsRow (W.alloc (.cells #[.slice none 0 0, .slice none 0 0] 51)).drew.heap.size 78 3 kv ks.length (flat ks))
    (hl : w'.ownsRow (W.alloc (.cells #[.slice none 0 0, .slice none 0 0] 51)).drew.heap.size 46 1 lw ls.length (lv ls)) (hb : Below (W.alloc (.cells #[.slice none 0 0, .slice none 0 0] 51)).drew.heap.size (W.alloc (.cells #[.slice none 0 0, .slice none 0 0] 51)).drew w') :
    Kp W ((w'.setCell ⟨W.heap.size, 0, none⟩ ov).setCell ⟨W.heap.size, 1, none⟩ kv) W.heap.size s ov kv lw ks ls := by
  have e : (W.alloc (.cells #[.slice none 0 0, .slice none 0 0] 51)).drew.heap.size = W.heap.size + 1 := by simp
  rw [e] at hr hl hb
  have hq : w'.heap[W.heap.size]? = some (.cells #[.slice none 0 0, .slice none 0 0] 51 (0, 0)) := (hb.block _ (by omega)).trans (heap_res _ _)
  refine ⟨two_set hq, Nat.le_refl _, owns_low (owns_far (owns_far hr (by omega)) (by omega)) (by omega), owns_low (owns_far (owns_far hl (by omega)) (by omega)) (by omega), ?_⟩
  exact ((((Below.refl _ W).alloc (Nat.le_refl _) _).drew.trans (hb.mono (by omega))).setCell (Nat.le_refl _) _).setCell (Nat.le_refl _) _
theorem kp_at {W w' : World} (hb : Below (W.alloc (.cells #[.slice none 0 0, .slice none 0 0] 51)).drew.heap.size (W.alloc (.cells #[.slice none 0 0, .slice none 0 0] 51)).drew w') : w'.heap[W.heap.size]? = some (.cells #[.slice none 0 0, .slice none 0 0] 51 (0, 0)) :=
  (hb.block _ (by simp)).trans (heap_res _ _)

/-- A store that has taken other nodes. -/
theorem take_end {w w5 : World} {s go capo B : Nat} {st st' : St} {kv : Value} {cur : Array Value} (H : StoreAt w s st) (hg : w.grownBy w5 (some s))
    (hb : w5.heap[s]? = some (.cells (cellsOf st' (.slice (some ⟨go, 0, none⟩) st'.ord.length capo) kv).toArray 53 (0, 0)))
    (ho : OrdAt w5 go st'.ord) (hcur : w5.heap[go]? = some (.cells cur 3 (0, 0))) (hcap : st'.ord.length ≤ capo) (hr : w5.ownsRow B 78 3 kv st'.ns.length (flat st'.ns))
    (hs30 : st'.hs.length = 30) (rs30 : st'.rs.length = 30) (en : st'.n = st.n) (er : st'.room = st.room) (eg : st'.given = st.given) (hl : st'.ord.length = st.n) (hm : ∀ v ∈ st'.ord, v < st.n) : StoreAt w5 s st' :=
  ⟨H.pos, ⟨go, capo, kv, B, hb, ho, ⟨cur, hcur⟩, hcap, hr⟩, hs30, rs30, by rw [eg]; exact H.given, by rw [en]; exact H.n6, by rw [en]; exact hl, by rw [en]; exact hm, by rw [er]; exact H.room, H.cols.grown hg (by have := H.pos; simp; omega)⟩

end Go.Proofs.YthoodkbdpnffdabDoor

/-
  Own work: no node is there in vain: stores whose nodes are all called for (plain mathematics over the store as it lies).
-/
namespace Go.Proofs.YthoodkbdpnffdabDoor
open Cho (U64 Tab full col Nd Red)

structure Clean (st : St) : Prop where
  full : ∀ k, k < st.ns.length → Cho.Reach st.ns st.rs (k + 2)
  zero : ∀ i (h : i < st.hs.length) (h' : i < st.rs.length), st.hs[i] = 0 → st.rs[i] = 0
  nd : ∀ i j (hi : i < st.hs.length) (hj : j < st.hs.length), st.hs[i] = st.hs[j] → st.hs[i] ≠ 0 → i = j

theorem clean_empty (n room : Nat) : Clean (St.empty n room) := by
  refine ⟨fun k h => absurd h (by simp [St.empty]), fun i h h' _ => List.getElem_replicate (n := 30) (a := 0) (by simpa [St.empty] using h'), fun i j hi hj _ h => absurd (List.getElem_replicate (n := 30) (a := 0) (by simpa [St.empty] using hi)) h⟩

theorem clean_added {st : St} (hi : Inv st) (h : Clean st) (t : Nat) (hf : st.free < 30) : Clean (st.added t) := by
  have hfl : st.free < st.hs.length := by rw [hi.hs30]; exact hf
  have hfr : st.free < st.rs.length := by rw [hi.rs30]; exact hf
  have hf0 : st.hs[st.free] = 0 := List.getElem_idxOf hfl
  have hr0 : st.rs[st.free] = 0 := h.zero _ hfl hfr hf0
  obtain ⟨ms, hms, hnew⟩ := Cho.build_full st.ord t st.ns
  have hns : (st.added t).ns = st.ns ++ ms := hms
  have hrs : (st.added t).rs = st.rs.set st.free (Cho.build st.ord t st.ns).2 := rfl
  have hmem : (Cho.build st.ord t st.ns).2 ∈ (st.added t).rs := by
    rw [hrs]; exact List.mem_set hfr _
  refine ⟨?_, ?_, ?_⟩
  · intro k hk
    rw [hns] at hk ⊢
    by_cases hlt : k < st.ns.length
    · refine Cho.reach_big (Cho.reach_append (h.full k hlt)) (by omega) ?_
      intro m hm
      obtain ⟨i, hil, rfl⟩ := List.getElem_of_mem hm
      by_cases e : i = st.free
      · subst e; left; omega
      · right
        rw [hrs]
        have : (st.rs.set st.free (Cho.build st.ord t st.ns).2)[i]'(by simpa using hil) = st.rs[i] := List.getElem_set_ne (Ne.symm e) _
        rw [← this]; exact List.getElem_mem _
    · exact Cho.reach_trans (hnew k (by omega) hk) fun m hm => Cho.reach_self _ (by simp at hm; subst hm; exact hmem)
  · intro i h1 h2 h0
    simp only [St.added] at h1 h2 h0 ⊢
    by_cases e : i = st.free
    · subst e; rw [List.getElem_set_self] at h0; omega
    · rw [List.getElem_set_ne (Ne.symm e)] at h0 ⊢
      exact h.zero i (by simpa using h1) (by simpa using h2) h0
  · intro i j h1 h2 he hne
    simp only [St.added] at h1 h2 he hne
    have b1 : i < st.hs.length := by simpa using h1
    have b2 : j < st.hs.length := by simpa using h2
    rw [List.getElem_set] at he hne
    rw [List.getElem_set] at he
    have g1 := hi.hs i b1
    have g2 := hi.hs j b2
    by_cases e1 : st.free = i
    · by_cases e2 : st.free = j
      · omega
      · rw [if_pos e1, if_neg e2] at he; omega
    · by_cases e2 : st.free = j
      · rw [if_neg e1, if_pos e2] at he; omega
      · rw [if_neg e1, if_neg e2] at he
        rw [if_neg e1] at hne
        exact h.nd i j b1 b2 he hne
end Go.Proofs.YthoodkbdpnffdabDoor
