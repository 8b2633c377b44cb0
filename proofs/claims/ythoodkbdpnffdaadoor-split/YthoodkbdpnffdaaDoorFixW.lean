/-
  Own work: what Restrict, Compose, Quantify and Ite answer of functions that are live (walks over contracts), also over a list of tables.
-/
import Derived.Test.YthoodkbdpnffdaaDoorPutW
import Derived.Test.YthoodkbdpnffdaaDoorSizeW
import Derived.Test.YthoodkbdpnffdaaDoorFnW
namespace Go.Proofs.YthoodkbdpnffdaaDoor
open Go.RowKit
open Cho (U64 Tab full col Nd Red)

theorem Has.vars {w : World} {s : Nat} {st : St} (h : Has w s st) : w.cell? ⟨s, 0, none⟩ = some (.int .i64 (st.n : Nat)) := by
  obtain ⟨_, _, _, _, hb, _⟩ := h.lies.ex; exact cell_of_block hb 0

set_option maxHeartbeats 400000 in
theorem restrict_ok (s a i : Nat) (to : Bool) (st : St) (w : World) (h : Has w s st) (ha : st.live a) (hi : i < st.n) (hf : st.free < 30)
    (hroom : (st.added (Cho.fix (st.tab a) i to)).ns.length ≤ st.room) (hg : st.given + 1 < 4294967295) :
    Calls Tryd.prog 30 #[.pointer (some ⟨s, 0, none⟩), .int .u32 a, .int .i64 i, .bool to] w fun e w' => e = .returned (.tuple #[.int .u32 (st.given + 1 : Nat), .int .i64 0]) ∧
      Has w' s (st.added (Cho.fix (st.tab a) i to)) ∧ w.grownBy w' (some s) := by
  have H : Hid (Has w s st) := h
  have hn := h.inv.n6
  have ta := tab_tab st a
  have HJ : Hid (Tab st.n (Cho.fix (st.tab a) i to)) := Cho.fix_tab i to ta hn hi
  have ua := ta.u64 hn
  have h0 := h.vars
  clear h ta
  go_enter Tryd.func30, Tryd.ntmps30
  go_wp2_with fail
  refine (hasVar_calls s i st.n _ h0 hi).mono ?_
  rintro e w0 ⟨rfl, rfl⟩
  go_wp2_with fail
  refine (table_ok s a st _ H.out ha).mono ?_
  rintro e w1 ⟨rfl, b1⟩
  have H1 : Hid (Has w1 s st) := H.out.below b1
  go_wp2_with fail
  refine (fix_calls _ i to _ H1.out.lies.cols ua (by omega)).mono ?_
  rintro e w4 ⟨rfl, rfl⟩
  go_wp2_with fail
  refine (add_ok s _ st _ H1.out hf HJ.out hroom hg).mono ?_
  rintro e w5 ⟨rfl, h5, g5⟩
  go_wp2_with fail
  go_ret2
  exact ⟨rfl, h5, grown_trans (grown_of_below b1) g5⟩

set_option maxHeartbeats 400000 in
theorem compose_ok (s a i b : Nat) (st : St) (w : World) (h : Has w s st) (ha : st.live a) (hb : st.live b) (hi : i < st.n) (hf : st.free < 30)
    (hroom : (st.added (Cho.putT (st.tab a) i (st.tab b))).ns.length ≤ st.room) (hg : st.given + 1 < 4294967295) :
    Calls Tryd.prog 32 #[.pointer (some ⟨s, 0, none⟩), .int .u32 a, .int .i64 i, .int .u32 b] w fun e w' => e = .returned (.tuple #[.int .u32 (st.given + 1 : Nat), .int .i64 0]) ∧
      Has w' s (st.added (Cho.putT (st.tab a) i (st.tab b))) ∧ w.grownBy w' (some s) := by
  have H : Hid (Has w s st) := h
  have hn := h.inv.n6
  have ta := tab_tab st a
  have tb := tab_tab st b
  have HJ : Hid (Tab st.n (Cho.putT (st.tab a) i (st.tab b))) := Cho.putT_tab i _ ta hn hi
  have ua := ta.u64 hn
  have ub := tb.u64 hn
  have h0 := h.vars
  clear h ta tb
  go_enter Tryd.func32, Tryd.ntmps32
  go_wp2_with fail
  refine (hasVar_calls s i st.n _ h0 hi).mono ?_
  rintro e w0 ⟨rfl, rfl⟩
  go_wp2_with fail
  refine (table_ok s a st _ H.out ha).mono ?_
  rintro e w1 ⟨rfl, b1⟩
  have H1 : Hid (Has w1 s st) := H.out.below b1
  go_wp2_with fail
  refine (table_ok s b st _ H1.out hb).mono ?_
  rintro e w2 ⟨rfl, b2⟩
  have H2 : Hid (Has w2 s st) := H1.out.below b2
  go_wp2_with fail
  refine (put_calls _ i _ _ H2.out.lies.cols ua (by omega) ub).mono ?_
  rintro e w4 ⟨rfl, rfl⟩
  go_wp2_with fail
  refine (add_ok s _ st _ H2.out hf HJ.out hroom hg).mono ?_
  rintro e w5 ⟨rfl, h5, g5⟩
  go_wp2_with fail
  go_ret2
  exact ⟨rfl, h5, grown_trans (grown_of_below (b1.trans (b2.mono b1.size))) g5⟩

set_option maxHeartbeats 400000 in
theorem ite_ok (s a b c : Nat) (st : St) (w : World) (h : Has w s st) (ha : st.live a) (hb : st.live b) (hc : st.live c) (hf : st.free < 30)
    (hroom : (st.added (Cho.chooseT (st.tab a) (st.tab b) (st.tab c))).ns.length ≤ st.room) (hg : st.given + 1 < 4294967295) :
    Calls Tryd.prog 31 #[.pointer (some ⟨s, 0, none⟩), .int .u32 a, .int .u32 b, .int .u32 c] w fun e w' => e = .returned (.tuple #[.int .u32 (st.given + 1 : Nat), .int .i64 0]) ∧
      Has w' s (st.added (Cho.chooseT (st.tab a) (st.tab b) (st.tab c))) ∧ w.grownBy w' (some s) := by
  have H : Hid (Has w s st) := h
  have hn := h.inv.n6
  have ta := tab_tab st a
  have tb := tab_tab st b
  have tc := tab_tab st c
  have HJ : Hid (Tab st.n (Cho.chooseT (st.tab a) (st.tab b) (st.tab c))) := Cho.chooseT_tab tb tc
  have ua := ta.u64 hn
  have ub := tb.u64 hn
  have uc := tc.u64 hn
  clear h ta tb tc
  go_enter Tryd.func31, Tryd.ntmps31
  go_wp2_with fail
  refine (table_ok s a st _ H.out ha).mono ?_
  rintro e w1 ⟨rfl, b1⟩
  have H1 : Hid (Has w1 s st) := H.out.below b1
  go_wp2_with fail
  refine (table_ok s b st _ H1.out hb).mono ?_
  rintro e w2 ⟨rfl, b2⟩
  have H2 : Hid (Has w2 s st) := H1.out.below b2
  go_wp2_with fail
  refine (table_ok s c st _ H2.out hc).mono ?_
  rintro e w3 ⟨rfl, b3⟩
  have H3 : Hid (Has w3 s st) := H2.out.below b3
  go_wp2_with fail
  refine (choose_calls _ _ _ _ ua ub uc).mono ?_
  rintro e w4 ⟨rfl, rfl⟩
  go_wp2_with fail
  refine (add_ok s _ st _ H3.out hf HJ.out hroom hg).mono ?_
  rintro e w5 ⟨rfl, h5, g5⟩
  go_wp2_with fail
  go_ret2
  have b12 := b1.trans (b2.mono b1.size)
  exact ⟨rfl, h5, grown_trans (grown_of_below (b12.trans (b3.mono b12.size))) g5⟩

/-- For all, or for some, values of the variables of a set. -/
def quantT (t x : Nat) (all : Bool) : Nat := if all then Cho.allTo t x 6 else Cho.someTo t x 6
theorem quantT_tab {n t x : Nat} (all : Bool) (h : Tab n t) (hn : n ≤ 6) (hx : x < 2 ^ n) : Tab n (quantT t x all) := by
  cases all
  · exact Cho.someTo_tab h hn hx 6
  · exact Cho.allTo_tab h hn hx 6

set_option maxHeartbeats 400000 in
theorem quantify_ok (s a x : Nat) (all : Bool) (st : St) (w : World) (h : Has w s st) (ha : st.live a) (hx : x < 2 ^ st.n) (hf : st.free < 30)
    (hroom : (st.added (quantT (st.tab a) x all)).ns.length ≤ st.room) (hg : st.given + 1 < 4294967295) :
    Calls Tryd.prog 33 #[.pointer (some ⟨s, 0, none⟩), .int .u32 a, .int .u8 x, .bool all] w fun e w' => e = .returned (.tuple #[.int .u32 (st.given + 1 : Nat), .int .i64 0]) ∧
      Has w' s (st.added (quantT (st.tab a) x all)) ∧ w.grownBy w' (some s) := by
  have H : Hid (Has w s st) := h
  have hn := h.inv.n6
  have ta := tab_tab st a
  have HJ : Hid (Tab st.n (quantT (st.tab a) x all)) := quantT_tab all ta hn hx
  have ua := ta.u64 hn
  have h0 := h.vars
  have h64 := Cho.two_pow_le _ hn
  have HP : Hid (x < 2 ^ st.n) := hx
  clear h ta hx
  have hx256 : x < 256 := by have := HP.out; omega
  have hle : ¬ wrap64 (2 ^ st.n) ≤ (x : Int) := by
    rw [wrap64_pow _ hn]; have := HP.out; omega
  cases all
  · go_enter Tryd.func33, Tryd.ntmps33
    go_wp2_with fail
    refine (table_ok s a st _ H.out ha).mono ?_
    rintro e w1 ⟨rfl, b1⟩
    have H1 : Hid (Has w1 s st) := H.out.below b1
    go_wp2_with fail
    refine (some_calls _ x _ H1.out.lies.cols ua hx256).mono ?_
    rintro e w4 ⟨rfl, rfl⟩
    go_wp2_with fail
    refine (add_ok s _ st _ H1.out hf HJ.out hroom hg).mono ?_
    rintro e w5 ⟨rfl, h5, g5⟩
    go_wp2_with fail
    go_ret2
    exact ⟨rfl, h5, grown_trans (grown_of_below b1) g5⟩
  · go_enter Tryd.func33, Tryd.ntmps33
    go_wp2_with fail
    refine (table_ok s a st _ H.out ha).mono ?_
    rintro e w1 ⟨rfl, b1⟩
    have H1 : Hid (Has w1 s st) := H.out.below b1
    go_wp2_with fail
    refine (all_calls _ x _ H1.out.lies.cols ua hx256).mono ?_
    rintro e w4 ⟨rfl, rfl⟩
    go_wp2_with fail
    refine (add_ok s _ st _ H1.out hf HJ.out hroom hg).mono ?_
    rintro e w5 ⟨rfl, h5, g5⟩
    go_wp2_with fail
    go_ret2
    exact ⟨rfl, h5, grown_trans (grown_of_below b1) g5⟩

theorem fn_var (B : Nat) (w0 w : World) (s n i : Nat) (fs : List Nat) (k : Int) (h : Fn B w0 w s n fs) (hk : k = fs.length + 1) (hl : fs.length < 30) (hi : i < n) :
    Calls Tryd.prog 25 #[.pointer (some ⟨s, 0, none⟩), .int .i64 i] w fun e w' => e = .returned (.tuple #[.int .u32 k, .int .i64 0]) ∧ Fn B w0 w' s n (fs ++ [col i &&& full n]) := by
  obtain ⟨st, hst, hfew, rfl, hall⟩ := h.ex
  have hf := few_free hfew hl
  have ht : Tab st.n (col i &&& full st.n) := Nat.lt_of_le_of_lt Nat.and_le_right (Cho.full_tab st.n)
  refine (var_ok s i st w hst hi (by rw [hf]; exact hl) (few_room hfew hst.inv hl ht) (by rw [hfew.given]; omega)).mono ?_
  rintro e w' ⟨rfl, h', hg⟩
  exact ⟨by rw [hfew.given, hk]; rfl, fn_added h hst hfew rfl hall hl ht h' hg⟩

theorem fn_restrict (B : Nat) (w0 w : World) (s n i v : Nat) (to : Bool) (fs : List Nat) (a k : Int) (h : Fn B w0 w s n fs) (hi : i < fs.length) (ha : a = i + 1) (hv : v < n) (hk : k = fs.length + 1) (hl : fs.length < 30) :
    Calls Tryd.prog 30 #[.pointer (some ⟨s, 0, none⟩), .int .u32 a, .int .i64 v, .bool to] w fun e w' => e = .returned (.tuple #[.int .u32 k, .int .i64 0]) ∧ Fn B w0 w' s n (fs ++ [Cho.fix fs[i] v to]) := by
  obtain ⟨st, hst, hfew, rfl, hall⟩ := h.ex
  have hf := few_free hfew hl
  have hJ := Cho.fix_tab v to (h.tab i hi) hst.inv.n6 hv
  obtain ⟨li, ei⟩ := hall i hi
  have := restrict_ok s (i + 1) v to st w hst li hv (by rw [hf]; exact hl) (by rw [ei]; exact few_room hfew hst.inv hl hJ) (by rw [hfew.given]; omega)
  rw [ei, show (((i + 1 : Nat)) : Int) = a from by omega] at this
  refine this.mono ?_
  rintro e w' ⟨rfl, h', hg⟩
  exact ⟨by rw [hfew.given, hk]; rfl, fn_added h hst hfew rfl hall hl hJ h' hg⟩

theorem fn_compose (B : Nat) (w0 w : World) (s n i v j : Nat) (fs : List Nat) (a b k : Int) (h : Fn B w0 w s n fs) (hi : i < fs.length) (hj : j < fs.length) (ha : a = i + 1) (hb : b = j + 1) (hv : v < n) (hk : k = fs.length + 1) (hl : fs.length < 30) :
    Calls Tryd.prog 32 #[.pointer (some ⟨s, 0, none⟩), .int .u32 a, .int .i64 v, .int .u32 b] w fun e w' => e = .returned (.tuple #[.int .u32 k, .int .i64 0]) ∧ Fn B w0 w' s n (fs ++ [Cho.putT fs[i] v fs[j]]) := by
  obtain ⟨st, hst, hfew, rfl, hall⟩ := h.ex
  have hf := few_free hfew hl
  have hJ := Cho.putT_tab v fs[j] (h.tab i hi) hst.inv.n6 hv
  obtain ⟨li, ei⟩ := hall i hi
  obtain ⟨lj, ej⟩ := hall j hj
  have := compose_ok s (i + 1) v (j + 1) st w hst li lj hv (by rw [hf]; exact hl) (by rw [ei, ej]; exact few_room hfew hst.inv hl hJ) (by rw [hfew.given]; omega)
  rw [ei, ej, show (((i + 1 : Nat)) : Int) = a from by omega, show (((j + 1 : Nat)) : Int) = b from by omega] at this
  refine this.mono ?_
  rintro e w' ⟨rfl, h', hg⟩
  exact ⟨by rw [hfew.given, hk]; rfl, fn_added h hst hfew rfl hall hl hJ h' hg⟩

theorem fn_ite (B : Nat) (w0 w : World) (s n i j l : Nat) (fs : List Nat) (a b c k : Int) (h : Fn B w0 w s n fs) (hi : i < fs.length) (hj : j < fs.length) (hl' : l < fs.length) (ha : a = i + 1) (hb : b = j + 1) (hc : c = l + 1) (hk : k = fs.length + 1) (hl : fs.length < 30) :
    Calls Tryd.prog 31 #[.pointer (some ⟨s, 0, none⟩), .int .u32 a, .int .u32 b, .int .u32 c] w fun e w' => e = .returned (.tuple #[.int .u32 k, .int .i64 0]) ∧ Fn B w0 w' s n (fs ++ [Cho.chooseT fs[i] fs[j] fs[l]]) := by
  obtain ⟨st, hst, hfew, rfl, hall⟩ := h.ex
  have hf := few_free hfew hl
  have hJ := Cho.chooseT_tab (a := fs[i]) (h.tab j hj) (h.tab l hl')
  obtain ⟨li, ei⟩ := hall i hi
  obtain ⟨lj, ej⟩ := hall j hj
  obtain ⟨ll, el⟩ := hall l hl'
  have := ite_ok s (i + 1) (j + 1) (l + 1) st w hst li lj ll (by rw [hf]; exact hl) (by rw [ei, ej, el]; exact few_room hfew hst.inv hl hJ) (by rw [hfew.given]; omega)
  rw [ei, ej, el, show (((i + 1 : Nat)) : Int) = a from by omega, show (((j + 1 : Nat)) : Int) = b from by omega, show (((l + 1 : Nat)) : Int) = c from by omega] at this
  refine this.mono ?_
  rintro e w' ⟨rfl, h', hg⟩
  exact ⟨by rw [hfew.given, hk]; rfl, fn_added h hst hfew rfl hall hl hJ h' hg⟩

theorem fn_quantify (B : Nat) (w0 w : World) (s n i x : Nat) (all : Bool) (fs : List Nat) (a k : Int) (h : Fn B w0 w s n fs) (hi : i < fs.length) (ha : a = i + 1) (hx : x < 2 ^ n) (hk : k = fs.length + 1) (hl : fs.length < 30) :
    Calls Tryd.prog 33 #[.pointer (some ⟨s, 0, none⟩), .int .u32 a, .int .u8 x, .bool all] w fun e w' => e = .returned (.tuple #[.int .u32 k, .int .i64 0]) ∧ Fn B w0 w' s n (fs ++ [quantT fs[i] x all]) := by
  obtain ⟨st, hst, hfew, rfl, hall⟩ := h.ex
  have hf := few_free hfew hl
  have hJ := quantT_tab all (h.tab i hi) hst.inv.n6 hx
  obtain ⟨li, ei⟩ := hall i hi
  have := quantify_ok s (i + 1) x all st w hst li hx (by rw [hf]; exact hl) (by rw [ei]; exact few_room hfew hst.inv hl hJ) (by rw [hfew.given]; omega)
  rw [ei, show (((i + 1 : Nat)) : Int) = a from by omega] at this
  refine this.mono ?_
  rintro e w' ⟨rfl, h', hg⟩
  exact ⟨by rw [hfew.given, hk]; rfl, fn_added h hst hfew rfl hall hl hJ h' hg⟩
end Go.Proofs.YthoodkbdpnffdaaDoor
