/-
  Own work: the nodes of a table are built as the plain function builds them (a walk by induction over the order).
-/
import Derived.Test.YthoodkbdpnffdabDoorDiaW
namespace Go.Proofs.YthoodkbdpnffdabDoor
open Go.RowKit
open Cho (U64 Tab full col Nd)

/-- The order lies in block g. -/
def OrdAt (w : World) (g : Nat) (ord : List Nat) : Prop := ∀ i (hi : i < ord.length), w.cell? ⟨g, i, none⟩ = some (.int .i64 (ord[i] : Nat))
theorem OrdAt.below {w w' : World} {B g : Nat} {ord : List Nat} (h : OrdAt w g ord) (hb : Below B w w') (hg : g < B) : OrdAt w' g ord :=
  fun i hi => (hb.cell (p := ⟨g, i, none⟩) hg).trans (h i hi)
theorem Cols.below {w w' : World} {B : Nat} (h : Cols w) (hb : Below B w w') (h0 : 0 < B) : Cols w' :=
  fun i hi => (hb.cell (p := ⟨0, i, none⟩) h0).trans (h i hi)

set_option maxHeartbeats 400000 in
theorem build_leaf (b level : Nat) (ao : Option Addr) (n capo : Nat) (nv : Value) (t : Nat) (w : World) (hb : w.heap[b]? = some (.cells #[.slice ao n capo, nv] 51 (0, 0)))
    (hl : level = n) (hn : n ≤ 6) (ht : U64 t) :
    Calls Tryd.prog 36 #[.pointer (some ⟨b, 0, none⟩), .int .i64 level, .int .u64 t] w fun e w' => e = .returned (.int .i64 ((if t.testBit 0 then 1 else 0 : Nat) : Int)) ∧ w' = w := by
  subst hl
  have c0 : w.cell? ⟨b, 0, none⟩ = some (.slice ao level capo) := cell_of_block hb 0
  clear hb
  cases h : t.testBit 0
  · have ha := and1_no t ht h
    go_enter Tryd.func36, Tryd.ntmps36
    go_wp2_with fail
    go_ret
    exact ⟨rfl, rfl⟩
  · have ha := and1_yes t ht h
    go_enter Tryd.func36, Tryd.ntmps36
    go_wp2_with fail
    go_ret
    exact ⟨rfl, rfl⟩

set_option maxHeartbeats 1000000 in
theorem build_calls (B b go capo : Nat) (ord : List Nat) (hB : B ≤ b) (hgo : go < B) (h0 : 0 < B) (h6 : ∀ v ∈ ord, v < 6) (hn : ord.length ≤ 6) :
    ∀ (vs : List Nat) (level t : Nat) (ns : List Nd) (nv : Value) (w : World), ord.drop level = vs → level ≤ ord.length → U64 t → Cols w → OrdAt w go ord →
      w.heap[b]? = some (.cells #[.slice (some ⟨go, 0, none⟩) ord.length capo, nv] 51 (0, 0)) → w.ownsRow B 78 3 nv ns.length (flat ns) → ns.length + 2 ^ vs.length ≤ 1000000 →
      Calls Tryd.prog 36 #[.pointer (some ⟨b, 0, none⟩), .int .i64 level, .int .u64 t] w fun e w' => e = .returned (.int .i64 (Cho.build vs t ns).2) ∧
        ∃ nv', w'.heap[b]? = some (.cells #[.slice (some ⟨go, 0, none⟩) ord.length capo, nv'] 51 (0, 0)) ∧
          w'.ownsRow B 78 3 nv' (Cho.build vs t ns).1.length (flat (Cho.build vs t ns).1) ∧ Below B w w' ∧ Kd b w w' := by
  intro vs
  induction vs with
  | nil =>
    intro level t ns nv w hd hle ht _ _ hb hr _
    have hl : level = ord.length := by have := congrArg List.length hd; simp at this; omega
    refine (build_leaf b level _ ord.length capo nv t w hb hl hn ht).mono ?_
    rintro e w' ⟨rfl, rfl⟩
    exact ⟨rfl, nv, hb, hr, Below.refl _ _, Kd.of_below (Below.refl _ _)⟩
  | cons v vs ih =>
    intro level t ns nv w hd hle ht hc ho hb hr hlen
    have hlt : level < ord.length := by have := congrArg List.length hd; simp at this; omega
    have hcons := hd.symm.trans (List.drop_eq_getElem_cons hlt)
    have hv : ord[level] = v := (List.cons.inj hcons).1.symm
    have hd' : ord.drop (level + 1) = vs := (List.cons.inj hcons).2.symm
    have hv6 : v < 6 := h6 v (by rw [← hv]; exact List.getElem_mem hlt)
    have c0 : w.cell? ⟨b, 0, none⟩ = some (.slice (some ⟨go, 0, none⟩) ord.length capo) := cell_of_block hb 0
    have co : w.cell? ⟨go, level, none⟩ = some (.int .i64 v) := by rw [ho level hlt, hv]
    have hlen' : ns.length + 2 * 2 ^ vs.length ≤ 1000000 := by rw [List.length_cons, Nat.pow_succ] at hlen; omega
    have hp : 0 < 2 ^ vs.length := Nat.two_pow_pos _
    have l1 := Cho.build_len vs (Cho.fix t v false) ns
    have IH1 : Hid _ := fun w hc ho hb hr => ih (level + 1) (Cho.fix t v false) ns nv w hd' (by omega) (Cho.fix_u64 t v false ht) hc ho hb hr (by omega)
    have IH2 : Hid _ := fun nv w hc ho hb hr => ih (level + 1) (Cho.fix t v true) (Cho.build vs (Cho.fix t v false) ns).1 nv w hd' (by omega) (Cho.fix_u64 t v true ht) hc ho hb hr (by omega)
    have BU : Hid (Cho.build (v :: vs) t ns = Cho.join (Cho.build vs (Cho.fix t v true) (Cho.build vs (Cho.fix t v false) ns).1).1
      (v, (Cho.build vs (Cho.fix t v false) ns).2, (Cho.build vs (Cho.fix t v true) (Cho.build vs (Cho.fix t v false) ns).1).2)) := rfl
    have l2 := Cho.build_len vs (Cho.fix t v true) (Cho.build vs (Cho.fix t v false) ns).1
    generalize hB1 : Cho.build vs (Cho.fix t v false) ns = r1 at *
    generalize hB2 : Cho.build vs (Cho.fix t v true) r1.1 = r2 at *
    obtain ⟨ns1, no⟩ := r1
    obtain ⟨ns2, yes⟩ := r2
    simp only at l1 l2
    have HC : Hid (Cols w) := hc
    have HOR : Hid (OrdAt w go ord) := ho
    clear ih hd hd' hv hcons hle ho hc hB1 hB2
    go_enter Tryd.func36, Tryd.ntmps36
    go_wp2_with fail
    refine (fix_calls t v false _ HC.out ht hv6).mono ?_
    rintro e w0 ⟨rfl, rfl⟩
    go_wp2_with fail
    refine (IH1.out _ HC.out HOR.out hb hr).mono ?_
    rintro e w1 ⟨rfl, nv1, hb1, hr1, bel1, kd1⟩
    have KD1 : Hid (Kd b w0 w1) := kd1
    clear kd1
    go_wp2_with fail
    refine (fix_calls t v true _ (HC.out.below bel1 h0) ht hv6).mono ?_
    rintro e w2 ⟨rfl, rfl⟩
    go_wp2_with fail
    refine (IH2.out nv1 _ (HC.out.below bel1 h0) (HOR.out.below bel1 hgo) hb1 hr1).mono ?_
    rintro e w3 ⟨rfl, nv3, hb3, hr3, bel3, kd3⟩
    have KD3 : Hid (Kd b w2 w3) := kd3
    clear kd3
    go_wp2_with fail
    refine (djoin_calls B b _ nv3 ns2 v no yes _ hB hb3 hr3 (by omega)).mono ?_
    rintro e w4 ⟨rfl, nv4, hb4, hr4, bel4, kd4⟩
    have KD4 : Hid (Kd b w3 w4) := kd4
    clear kd4
    go_wp2_with fail
    go_ret
    rw [BU.out]
    exact ⟨rfl, nv4, hb4, hr4, (bel1.trans bel3).trans bel4, (KD1.out.trans KD3.out).trans KD4.out⟩
end Go.Proofs.YthoodkbdpnffdabDoor
