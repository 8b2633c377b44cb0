/-
  Own work: what a slice of ints that came in gives the walks.
-/
import Derived.Test.YtpbhmbijlglhiaaDoorSliceA
import Derived.Test.YtpbhmbijlglhiaaDoorKeepO
namespace Go.Proofs.YtpbhmbijlglhiaaDoor
open Go.ChangeShapes Go.WideShapes Go.ChangeAt Go.WideMaps Go.WideElems Go.RowKit

theorem slice_i64 {H : Type} {enc : TypeId × Value → H} {W : World} {a1 : Option Addr} {len1 cap1 : Nat} {d : DataW H} {ps : List MemPlace}
    (h : DataW.Trod enc Tryd.prog W 0 (fun _ => true) true 64 (.slice a1 len1 cap1) d ps) :
    ∃ l : List Int, l.length = len1 ∧ SlI W a1 l := by
  obtain ⟨fuel, hf⟩ := h
  rcases open_ints Tryd.underlying64 Tryd.underlying3 (by kernel_rfl) hf with ⟨hcs, _⟩ | ⟨x, l, c, zs, hcs, _, hl, hm, hz, _, hcell, hwz⟩
  · simp [Value.cells] at hcs
    obtain ⟨rfl, rfl, rfl⟩ := hcs
    exact ⟨[], rfl, fun i hi => absurd hi (by simp), by simp, by simp⟩
  · simp [Value.cells] at hcs
    obtain ⟨rfl, rfl, rfl⟩ := hcs
    have hz' : zs.length = cap1 := by simpa using hz
    have hlen : (zs.take len1).length = len1 := by simp; omega
    refine ⟨zs.take len1, hlen, ?_, ?_, by rw [hlen]; unfold maxLen at hm; omega⟩
    · intro i hi
      rw [hlen] at hi
      obtain ⟨b, off, rfl, hc'⟩ := ints_at hcell (by omega)
      have hc := hc' i (by omega)
      have hiz : i < zs.length := by omega
      have eg : zs.getD i 0 = zs[i] := by simp [List.getD, hiz]
      refine ⟨b, off, rfl, World.block_lt_of_cell? W _ hc, ?_⟩
      rw [hc, eg]
      simp
    · intro t ht
      exact i64_bd (hwz t (List.mem_of_mem_take ht))
end Go.Proofs.YtpbhmbijlglhiaaDoor
