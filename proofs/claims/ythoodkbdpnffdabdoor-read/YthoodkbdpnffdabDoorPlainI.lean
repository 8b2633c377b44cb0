/-
  Own work: which links are reached from some links (plain mathematics).
-/
import Derived.Test.YthoodkbdpnffdabDoorPlainF
import Derived.Test.YthoodkbdpnffdabDoorSaysW
import Derived.Deep.OwnRows
namespace Cho

def marks0 (n : Nat) : List Bool := List.replicate (n + 2) false
def markAll (n : Nat) (ls : List Nat) : List Bool := ls.foldl (fun b l => b.set l true) (marks0 n)
def dstep (ns : List Nd) (i : Nat) (b : List Bool) : List Bool :=
  if b.getD (i + 2) false then (b.set (ns.getD i (0, 0, 0)).2.1 true).set (ns.getD i (0, 0, 0)).2.2 true else b
/-- The marks when the last c nodes have handed theirs on. -/
def dn (ns : List Nd) (b : List Bool) : Nat → List Bool
  | 0 => b
  | c + 1 => dstep ns (ns.length - 1 - c) (dn ns b c)
def reached (ns : List Nd) (ls : List Nat) : List Bool := dn ns (markAll ns.length ls) ns.length

theorem markAll_snoc (n : Nat) (ls : List Nat) (l : Nat) : markAll n (ls ++ [l]) = (markAll n ls).set l true := by simp [markAll]
theorem markAll_len (n : Nat) (ls : List Nat) : (markAll n ls).length = n + 2 := by
  unfold markAll
  suffices h : ∀ b : List Bool, (ls.foldl (fun b l => b.set l true) b).length = b.length by rw [h]; simp [marks0]
  induction ls with
  | nil => intro b; rfl
  | cons l ls ih => intro b; simp only [List.foldl_cons]; rw [ih]; simp
theorem dstep_len (ns : List Nd) (i : Nat) (b : List Bool) : (dstep ns i b).length = b.length := by unfold dstep; split <;> simp
theorem dn_len (ns : List Nd) (b : List Bool) (c : Nat) : (dn ns b c).length = b.length := by
  induction c with
  | zero => rfl
  | succ c ih => simp only [dn]; rw [dstep_len, ih]

/-- l is reached from one of these links. -/
def Reach (ns : List Nd) (ls : List Nat) (l : Nat) : Prop := ∀ S : Nat → Prop, (∀ l ∈ ls, S l) → (∀ k (hk : k < ns.length), S (k + 2) → S ns[k].2.1 ∧ S ns[k].2.2) → S l

theorem getD_set {b : List Bool} {i j : Nat} : (b.set i true).getD j false = (decide (i = j ∧ j < b.length) || b.getD j false) := by
  simp only [List.getD, List.getElem?_set]
  by_cases h : i = j
  · subst h
    by_cases hl : i < b.length
    · simp [hl]
    · simp [hl]
  · simp [h]

theorem markAll_get (n : Nat) (ls : List Nat) (j : Nat) (hj : j < n + 2) : (markAll n ls).getD j false = decide (j ∈ ls) := by
  unfold markAll
  suffices h : ∀ b : List Bool, b.length = n + 2 → (ls.foldl (fun b l => b.set l true) b).getD j false = (decide (j ∈ ls) || b.getD j false) by
    rw [h _ (by simp [marks0])]; simp [marks0, List.getD, hj]
  induction ls with
  | nil => intro b _; simp
  | cons l ls ih =>
    intro b hb
    simp only [List.foldl_cons]
    rw [ih _ (by simp [hb]), getD_set, hb]
    by_cases e : l = j
    · subst e; simp [hj]
    · have e' : ¬ j = l := fun h => e h.symm
      simp [e, e']

theorem reached_iff {ns : List Nd} (hw : Wf ns) (ls : List Nat) (hls : ∀ l ∈ ls, l < ns.length + 2) (j : Nat) (hj : j < ns.length + 2) : (reached ns ls).getD j false = true ↔ Reach ns ls j := by
  have hlen : ∀ c, (dn ns (markAll ns.length ls) c).length = ns.length + 2 := fun c => by rw [dn_len, markAll_len]
  have nodeAt : ∀ i (hi : i < ns.length), ns.getD i (0, 0, 0) = ns[i] := fun i hi => by simp [List.getD, hi]
  -- every mark is one that is reached
  have sound : ∀ c, c ≤ ns.length → ∀ j, j < ns.length + 2 → (dn ns (markAll ns.length ls) c).getD j false = true → Reach ns ls j := by
    intro c
    induction c with
    | zero =>
      intro _ j hj h
      simp only [dn] at h
      rw [markAll_get _ _ _ hj] at h
      exact fun S h1 _ => h1 j (by simpa using h)
    | succ c ih =>
      intro hc j hj h
      simp only [dn, dstep] at h
      split at h
      · rename_i hm
        have hi : ns.length - 1 - c < ns.length := by omega
        have hr := ih (by omega) (ns.length - 1 - c + 2) (by omega) hm
        rw [nodeAt _ hi, getD_set, getD_set] at h
        simp only [Bool.or_eq_true, decide_eq_true_eq] at h
        rcases h with ⟨e, _⟩ | ⟨e, _⟩ | h
        · exact fun S h1 h2 => e ▸ (h2 _ hi (hr S h1 h2)).2
        · exact fun S h1 h2 => e ▸ (h2 _ hi (hr S h1 h2)).1
        · exact ih (by omega) j hj h
      · exact ih (by omega) j hj h
  -- marks stay
  have stay : ∀ c d j, (dn ns (markAll ns.length ls) c).getD j false = true → (dn ns (markAll ns.length ls) (c + d)).getD j false = true := by
    intro c d j h
    induction d with
    | zero => exact h
    | succ d ih =>
      rw [← Nat.add_assoc]
      simp only [dn, dstep]
      split
      · rw [getD_set, getD_set, ih]; simp
      · exact ih
  -- a node hands its mark on when its turn comes, and no later node marks it
  have late : ∀ c d j, c + d ≤ ns.length → ns.length - c + 1 ≤ j → (dn ns (markAll ns.length ls) (c + d)).getD j false = true → (dn ns (markAll ns.length ls) c).getD j false = true := by
    intro c d j
    induction d with
    | zero => intro _ _ h; exact h
    | succ d ih =>
      intro hc hj h
      rw [← Nat.add_assoc] at h
      simp only [dn, dstep] at h
      split at h
      · have hi : ns.length - 1 - (c + d) < ns.length := by omega
        have hwi := hw _ hi
        rw [nodeAt _ hi, getD_set, getD_set] at h
        simp only [Bool.or_eq_true, decide_eq_true_eq] at h
        rcases h with ⟨e, _⟩ | ⟨e, _⟩ | h
        · omega
        · omega
        · exact ih (by omega) hj h
      · exact ih (by omega) hj h
  constructor
  · exact sound _ (Nat.le_refl _) j hj
  · intro h
    apply h (fun l => (reached ns ls).getD l false = true)
    · intro l hl
      have : (dn ns (markAll ns.length ls) (0 + ns.length)).getD l false = true := by
        apply stay 0 ns.length l
        simp only [dn]
        rw [markAll_get _ _ _ (hls l hl)]; simpa using hl
      simpa [reached] using this
    · intro k hk hm
      have hwk := hw k hk
      have h1 := late (ns.length - 1 - k) (k + 1) (k + 2) (by omega) (by omega) (by rw [show ns.length - 1 - k + (k + 1) = ns.length from by omega]; exact hm)
      have hstep : ∀ l, l = ns[k].2.1 ∨ l = ns[k].2.2 → (dn ns (markAll ns.length ls) (ns.length - 1 - k + 1)).getD l false = true := by
        intro l hl
        simp only [dn, dstep]
        have ek : ns.length - 1 - (ns.length - 1 - k) = k := by omega
        rw [ek, if_pos h1, nodeAt k hk, getD_set, getD_set]
        simp only [List.length_set, hlen]
        rcases hl with rfl | rfl
        · simp; omega
        · simp; omega
      have fin : ∀ l, (dn ns (markAll ns.length ls) (ns.length - 1 - k + 1)).getD l false = true → (reached ns ls).getD l false = true := by
        intro l hl
        have := stay (ns.length - 1 - k + 1) k l hl
        rw [show ns.length - 1 - k + 1 + k = ns.length from by omega] at this
        exact this
      exact ⟨fin _ (hstep _ (.inl rfl)), fin _ (hstep _ (.inr rfl))⟩
end Cho

/-
  Own work: 'reached' marks the links that are reached, as the plain function does (a walk).
-/
namespace Go.Proofs.YthoodkbdpnffdabDoor
open Go.RowKit
open Cho (U64 Tab full col Nd)

def bc (b : List Bool) : List Value := b.map Value.bool
theorem bc_set (b : List Bool) (l : Nat) : (bc b).set l (.bool true) = bc (b.set l true) := by simp [bc, List.map_set]
theorem bc_get (b : List Bool) (l : Nat) (h : l < b.length) : (bc b)[l]? = some (.bool (b.getD l false)) := by simp [bc, List.getD, h]
theorem Tryd.infoBool : (Tryd.prog.info? 4).map (fun i => (i.zero, i.size, i.bytes)) = some (some (.bool false), 1, 1) := by kernel_rfl

/-- The marks lie in block g. -/
structure Marks (w wr : World) (b : List Bool) (n : Nat) : Prop where
  at' : wr.heap[w.heap.size]? = some (.cells (bc b).toArray 4 (0, 0))
  len : b.length = n + 2
  bel : Below w.heap.size w wr
theorem Marks.cell {w wr : World} {b : List Bool} {n : Nat} (h : Marks w wr b n) (l : Nat) (hl : l < n + 2) : wr.cell? ⟨w.heap.size, l, none⟩ = some (.bool (b.getD l false)) := by
  rw [cell_of_block h.at', List.getElem?_toArray, bc_get _ _ (by rw [h.len]; exact hl)]
theorem Marks.set {w wr : World} {b : List Bool} {n : Nat} (h : Marks w wr b n) (l : Nat) : Marks w (wr.setCell ⟨w.heap.size, l, none⟩ (.bool true)) (b.set l true) n :=
  ⟨by rw [block_set h.at', bc_set], by simp [h.len], h.bel.setCell (Nat.le_refl _) _⟩

theorem made_marks (n : Nat) : madeCells #[Value.bool false] (n + 2) = (bc (Cho.marks0 n)).toArray := by
  unfold madeCells bc Cho.marks0
  apply Array.ext
  · simp
  · intro i h1 h2
    simp [Nat.mod_one]

end Go.Proofs.YthoodkbdpnffdabDoor

/-
  Own work: what is kept of a diagram when only some links are called for (plain mathematics).
-/
namespace Cho

/-- Where each link leads to among the nodes that are kept, and these, when k nodes have been looked at. -/
def keepTo (ns : List Nd) (R : List Bool) : Nat → List Nat × List Nd
  | 0 => ((List.replicate (ns.length + 2) 0).set 1 1, [])
  | k + 1 =>
    if R.getD (k + 2) false then
      ((keepTo ns R k).1.set (k + 2) (2 + (keepTo ns R k).2.length),
       (keepTo ns R k).2 ++ [((ns.getD k (0, 0, 0)).1, (keepTo ns R k).1.getD (ns.getD k (0, 0, 0)).2.1 0, (keepTo ns R k).1.getD (ns.getD k (0, 0, 0)).2.2 0)])
    else keepTo ns R k

theorem keepTo_len (ns : List Nd) (R : List Bool) (k : Nat) : (keepTo ns R k).1.length = ns.length + 2 := by
  induction k with
  | zero => simp [keepTo]
  | succ k ih => simp only [keepTo]; split <;> simp [ih]
theorem keepTo_few (ns : List Nd) (R : List Bool) (k : Nat) : (keepTo ns R k).2.length ≤ k := by
  induction k with
  | zero => simp [keepTo]
  | succ k ih =>
    simp only [keepTo]; split
    · simp; omega
    · omega
theorem keepTo_bound (ns : List Nd) (R : List Bool) (k : Nat) : ∀ x ∈ (keepTo ns R k).1, x < (keepTo ns R k).2.length + 2 := by
  induction k with
  | zero =>
    intro x hx
    simp only [keepTo] at hx ⊢
    rcases List.mem_or_eq_of_mem_set hx with h | h
    · have := List.eq_of_mem_replicate h; simp; omega
    · simp; omega
  | succ k ih =>
    simp only [keepTo]; split
    · intro x hx
      simp only at hx ⊢
      rcases List.mem_or_eq_of_mem_set hx with h | h
      · have := ih x h; simp; omega
      · simp; omega
    · exact ih
end Cho
