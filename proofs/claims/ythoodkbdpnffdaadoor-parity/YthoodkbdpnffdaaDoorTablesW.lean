/-
  Own work: what a slice of ints that came in gives the walks.
-/
import Derived.Test.YthoodkbdpnffdaaDoorReachW
import Derived.Test.YthoodkbdpnffdaaDoorKeepO
namespace Go.Proofs.YthoodkbdpnffdaaDoor
open Go.ChangeShapes Go.WideShapes Go.ChangeAt Go.WideMaps Go.WideElems Go.RowKit

theorem slice_i64 {H : Type} {enc : TypeId × Value → H} {W : World} {a1 : Option Addr} {len1 cap1 : Nat} {d : DataW H} {ps : List MemPlace}
    (h : DataW.Trod enc Tryd.prog W 0 (fun _ => true) true 64 (.slice a1 len1 cap1) d ps) :
    ∃ l : List Int, l.length = len1 ∧ SlI W a1 l := by
  obtain ⟨fuel, hf⟩ := h
  rcases open_ints Tryd.underlying64 Tryd.underlying3 (by kernel_rfl) hf with ⟨hcs, _⟩ | ⟨x, l, c, zs, hcs, _, hl, hm, hz, _, hcell, hwz⟩
  · simp [Value.cells] at hcs
    obtain ⟨rfl, rfl, rfl⟩ := hcs
    exact ⟨[], rfl, fun i hi => absurd hi (by simp), by simp, by simp⟩
  · simp [Value.cells] at hcs
    obtain ⟨rfl, rfl, rfl⟩ := hcs
    have hz' : zs.length = cap1 := by simpa using hz
    have hlen : (zs.take len1).length = len1 := by simp; omega
    refine ⟨zs.take len1, hlen, ?_, ?_, by rw [hlen]; unfold maxLen at hm; omega⟩
    · intro i hi
      rw [hlen] at hi
      obtain ⟨b, off, rfl, hc'⟩ := ints_at hcell (by omega)
      have hc := hc' i (by omega)
      have hiz : i < zs.length := by omega
      have eg : zs.getD i 0 = zs[i] := by simp [List.getD, hiz]
      refine ⟨b, off, rfl, World.block_lt_of_cell? W _ hc, ?_⟩
      rw [hc, eg]
      simp
    · intro t ht
      exact i64_bd (hwz t (List.mem_of_mem_take ht))
end Go.Proofs.YthoodkbdpnffdaaDoor

/-
  Own work: whether each handle calls the function of its table (a walk).
-/
namespace Go.Proofs.YthoodkbdpnffdaaDoor
open Go.RowKit
open Cho (U64 Tab full col Nd Red Dg DgOk)

theorem hrow_at {w : World} {B m caph : Nat} {ah : Option Addr} (h : w.ownsRow B 30 1 (.slice ah m caph) m (hv ((List.range m).map (· + 1)))) {k : Nat} (hk : k < m) :
    ∃ gh, ah = some ⟨gh, 0, none⟩ ∧ gh < w.heap.size ∧ w.cell? ⟨gh, k, none⟩ = some (.int .u32 ((k : Int) + 1)) := by
  obtain ⟨gh, cap, e, _, _⟩ := owns_form h (by omega)
  simp only [Value.slice.injEq] at e
  obtain ⟨rfl, _, _⟩ := e
  have hc := h.cells (g := gh) rfl k (.int .u32 ((k : Int) + 1)) (by simp [hv, hk])
  rw [Addr.add_mid, Nat.zero_add] at hc
  exact ⟨gh, rfl, World.block_lt_of_cell? w _ hc, hc⟩

set_option maxRecDepth 100000 in
set_option maxHeartbeats 1000000 in
theorem tables_calls (B s n m caph cap : Nat) (w0 w : World) (ah ao : Option Addr) (l : List Nat) (st : St) (h : Hv w0.heap.size w0 w s st) (hn : st.n = n) (hrow : w.ownsRow B 30 1 (.slice ah m caph) m (hv ((List.range m).map (· + 1))))
    (hl : SlU w0 ao l) (hu : ∀ t ∈ l, U64 t) (hml : m ≤ l.length) (hm20 : m ≤ 20) (ht : ∀ i (_ : i < m) (h2 : i < l.length), st.live (i + 1) ∧ st.tab (i + 1) = cutT l[i] n) :
    Calls Tryd.prog 37 #[.pointer (some ⟨s, 0, none⟩), .int .i64 n, .slice ah m caph, .slice ao l.length cap] w fun e w' => e = .returned (.bool true) ∧ Below w.heap.size w w' := by
  have hn6 : n ≤ 6 := by rw [← hn]; exact h.has.inv.n6
  have H : Hid (Hv w0.heap.size w0 w s st) := h
  have HRW : Hid (w.ownsRow B 30 1 (.slice ah m caph) m (hv ((List.range m).map (· + 1)))) := hrow
  have HL : Hid (SlU w0 ao l) := hl
  have HU : Hid (∀ t ∈ l, U64 t) := hu
  have HT : Hid (∀ i (_ : i < m) (h2 : i < l.length), st.live (i + 1) ∧ st.tab (i + 1) = cutT l[i] n) := ht
  clear h hrow hl hu ht
  go_enter Tryd.func37, Tryd.ntmps37
  go_wp2_with fail
  go_loopw [9] (fun x wr => ∃ i : Nat, i ≤ m ∧ x = .int .i64 i ∧ Hid (Below w.heap.size w wr)) (fun x _ => m - (intOf x).toNat)
  case atStart => exact ⟨0, Nat.zero_le _, rfl, Below.refl _ _⟩
  case round =>
    obtain ⟨i, hi, rfl, BR⟩ := hrel
    by_cases hlt : i < m
    · obtain ⟨gh, rfl, hgh, hc⟩ := hrow_at HRW.out hlt
      have hil : i < l.length := by omega
      obtain ⟨g, o, rfl, hg, hcell⟩ := HL.out i hil
      have HR2 : Hid (Hv w0.heap.size w0 wr s st) := H.out.below BR.out
      have c1 : wr.cell? ⟨gh, i, none⟩ = some (.int .u32 ((i : Int) + 1)) := (BR.out.cell (p := ⟨gh, i, none⟩) hgh).trans hc
      have c2 : wr.cell? ⟨g, o + i, none⟩ = some (.int .u64 (l[i] : Nat)) := (HR2.out.bel.cell (p := ⟨g, o + i, none⟩) hg).trans hcell
      have ut := HU.out l[i] (List.getElem_mem hil)
      have hti := HT.out i hlt hil
      have KI : Hid (∀ W, Below wr.heap.size wr W → Calls Tryd.prog 18 #[.pointer (some ⟨s, 0, none⟩), .int .u32 ((i : Int) + 1), .int .i64 0, .int .u64 (cutT l[i] n : Nat)] W fun e w' => e = .returned (.bool true) ∧ Below W.heap.size W w') := fun W hW => is_ok s (i + 1) (cutT l[i] n) st W (HR2.out.has.below hW) hti.1 hti.2
      have KC : Hid (∀ W, Calls Tryd.prog 15 #[.int .u64 (l[i] : Nat), .int .i64 n] W fun e w' => e = .returned (.int .u64 (cutT l[i] n : Nat)) ∧ w' = W) := fun W => cut_calls l[i] n W ut hn6
      clear hcell hc hti ut
      generalize l[i] = x at *
      generalize cutT x n = y at *
      go_wp2_with fail
      go_region_held3 (fun w' => w'.cell? ⟨gh, i, none⟩ = some (.int .u32 ((i : Int) + 1)) ∧ w'.cell? ⟨g, o + i, none⟩ = some (.int .u64 (x : Nat))) (first | exact ⟨c1, c2⟩ | exact ⟨(b2.cell (p := ⟨gh, i, none⟩) (World.block_lt_of_cell? _ _ c1)).trans c1, (b2.cell (p := ⟨g, o + i, none⟩) (World.block_lt_of_cell? _ _ c2)).trans c2⟩ | go_keep)
        (first
          | (go_at_call 15; refine (KC.out _).mono ?_; rintro e w1 ⟨rfl, rfl⟩)
          | (go_at_call 18; refine (KI.out wr.drew (Below.refl _ _).drew).mono ?_; rintro e w2 ⟨rfl, b2⟩))
      have B2 : Hid (Below w.heap.size w w2) := BR.out.trans (((Below.refl _ wr).drew.trans b2).mono BR.out.size)
      clear b2 KI
      go_wp2_with fail
      exact ⟨⟨i + 1, hlt, by go_num, B2⟩, by simp [intOf]; omega⟩
    · go_wp2_with fail
      go_ret
      exact ⟨rfl, BR.out⟩
end Go.Proofs.YthoodkbdpnffdaaDoor
