/-
  Own work: what a slice of numbers that came in gives the walks.
-/
import Derived.Test.YthoodkbdpnffdaaDoorPlainD
import Derived.Test.YthoodkbdpnffdaaDoorFilledW
import Derived.ChangeOld
namespace Go.Proofs.YthoodkbdpnffdaaDoor
open Go.ChangeShapes Go.WideShapes Go.ChangeAt Go.WideMaps Go.WideElems Go.RowKit
open Cho (U64)

theorem laidOutAll : laidOutB Tryd.prog = true := by kernel_rfl

theorem slice_u64 {H : Type} {enc : TypeId × Value → H} {W : World} {a1 : Option Addr} {len1 cap1 : Nat} {d : DataW H} {ps : List MemPlace}
    (h : DataW.Trod enc Tryd.prog W 0 (fun _ => true) true 49 (.slice a1 len1 cap1) d ps) :
    ∃ l : List Nat, l.length = len1 ∧ SlU W a1 l ∧ (∀ t ∈ l, U64 t) ∧ l.length ≤ 9223372036854775807 := by
  obtain ⟨fuel, hf⟩ := h
  rcases open_ints Tryd.underlying49 Tryd.underlying22 (by kernel_rfl) hf with ⟨hcs, _⟩ | ⟨x, l, c, zs, hcs, _, hl, hm, hz, _, hcell, hwz⟩
  · simp [Value.cells] at hcs
    obtain ⟨rfl, rfl, rfl⟩ := hcs
    exact ⟨[], rfl, fun i hi => absurd hi (by simp), by simp, by simp⟩
  · simp [Value.cells] at hcs
    obtain ⟨rfl, rfl, rfl⟩ := hcs
    have hz' : zs.length = cap1 := by simpa using hz
    have hlen : ((zs.take len1).map Int.toNat).length = len1 := by simp; omega
    refine ⟨(zs.take len1).map Int.toNat, hlen, ?_, ?_, by rw [hlen]; unfold maxLen at hm; omega⟩
    · intro i hi
      rw [hlen] at hi
      obtain ⟨b, off, rfl, hc'⟩ := ints_at hcell (by omega)
      have hc := hc' i (by omega)
      have hiz : i < zs.length := by omega
      obtain ⟨n, e, hn⟩ := u64_bd (hwz zs[i] (List.getElem_mem hiz))
      have eg : zs.getD i 0 = (n : Int) := by simp [List.getD, hiz, e]
      refine ⟨b, off, rfl, World.block_lt_of_cell? W _ hc, ?_⟩
      rw [hc, eg]
      simp [e]
    · intro t ht
      simp only [List.mem_map] at ht
      obtain ⟨z, hz2, rfl⟩ := ht
      have := hwz z (List.mem_of_mem_take hz2)
      obtain ⟨n, e, hn⟩ := u64_bd this
      rw [e]; simpa using hn
end Go.Proofs.YthoodkbdpnffdaaDoor
