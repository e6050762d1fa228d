import Derived.Test.YtajphdppmdoalaaGreatN
import Derived.Test.YtajphdppmdoalaaGreatQ
import Derived.Deep.RegionHeld3
import Derived.Deep.DeepCutAuto
namespace Go.Proofs.YtajphdppmdoalaaGreat
open Go.RowKit
set_option linter.unusedVariables false

theorem owns_has2 {w : World} {base n cv : Nat} {ao : Option Addr} {zs : List Int} (h : w.ownsRow base 5 1 (.slice ao n cv) n (zs.map (Value.int .u8))) : Has w ao zs ∧ zs.length = n ∧ (ao = none → cv = 0) := by
  obtain ⟨ao', cv', he, h1, h2, _, _, h3⟩ := owns_any h
  simp only [Value.slice.injEq] at he
  obtain ⟨rfl, _, rfl⟩ := he
  exact ⟨h1, h2, h3⟩
theorem store9 {w : World} {g : Nat} {t : TypeId} (h : w.heap[g]? = some (.cells #[.int .u16 0, .int .u16 0, .int .u8 0, .int .u16 0, .int .u8 0, .bool false, .int .u16 0, .int .u16 0, .slice none 0 0] t (0, 0))) (a0 a1 a2 a3 a4 a5 a6 a7 a8 : Value) : (((((((((w.setCell ⟨g, 0, none⟩ a0).setCell ⟨g, 1, none⟩ a1).setCell ⟨g, 2, none⟩ a2).setCell ⟨g, 3, none⟩ a3).setCell ⟨g, 4, none⟩ a4).setCell ⟨g, 5, none⟩ a5).setCell ⟨g, 6, none⟩ a6).setCell ⟨g, 7, none⟩ a7).setCell ⟨g, 8, none⟩ a8).heap[g]? = some (.cells #[a0, a1, a2, a3, a4, a5, a6, a7, a8] t (0, 0)) := by
  have h9 := row_setCell (j := 8) (row_setCell (j := 7) (row_setCell (j := 6) (row_setCell (j := 5) (row_setCell (j := 4) (row_setCell (j := 3) (row_setCell (j := 2) (row_setCell (j := 1) (row_setCell (j := 0) h a0) a1) a2) a3) a4) a5) a6) a7) a8
  simpa using h9
theorem owns_store9 {w : World} {g base : Nat} {e : TypeId} {size : Nat} {v : Value} {n : Nat} {xs : List Value} (h : w.ownsRow base e size v n xs) (hg : g < base) (a0 a1 a2 a3 a4 a5 a6 a7 a8 : Value) : (((((((((w.setCell ⟨g, 0, none⟩ a0).setCell ⟨g, 1, none⟩ a1).setCell ⟨g, 2, none⟩ a2).setCell ⟨g, 3, none⟩ a3).setCell ⟨g, 4, none⟩ a4).setCell ⟨g, 5, none⟩ a5).setCell ⟨g, 6, none⟩ a6).setCell ⟨g, 7, none⟩ a7).setCell ⟨g, 8, none⟩ a8).ownsRow base e size v n xs := by
  refine ownsRow_setCell_below (ownsRow_setCell_below (ownsRow_setCell_below (ownsRow_setCell_below (ownsRow_setCell_below (ownsRow_setCell_below (ownsRow_setCell_below (ownsRow_setCell_below (ownsRow_setCell_below h ?_ _) ?_ _) ?_ _) ?_ _) ?_ _) ?_ _) ?_ _) ?_ _) ?_ _ <;> exact hg
theorem below_store9 {w0 w : World} {g B : Nat} (h : Below B w0 w) (hg : B ≤ g) (a0 a1 a2 a3 a4 a5 a6 a7 a8 : Value) : Below B w0 (((((((((w.setCell ⟨g, 0, none⟩ a0).setCell ⟨g, 1, none⟩ a1).setCell ⟨g, 2, none⟩ a2).setCell ⟨g, 3, none⟩ a3).setCell ⟨g, 4, none⟩ a4).setCell ⟨g, 5, none⟩ a5).setCell ⟨g, 6, none⟩ a6).setCell ⟨g, 7, none⟩ a7).setCell ⟨g, 8, none⟩ a8) := by
  refine Below.setCell (Below.setCell (Below.setCell (Below.setCell (Below.setCell (Below.setCell (Below.setCell (Below.setCell (Below.setCell h ?_ _) ?_ _) ?_ _) ?_ _) ?_ _) ?_ _) ?_ _) ?_ _) ?_ _ <;> exact hg

theorem has_take {w : World} {ao : Option Addr} {zs : List Int} (k : Nat) (h : Has w ao zs) : Has w ao (zs.take k) := by
  refine ⟨fun he => by rw [h.1 he]; simp, fun hz => ?_⟩
  obtain ⟨b, o, he, hlt, hc⟩ := h.2 (by intro e; subst e; simp at hz)
  refine ⟨b, o, he, hlt, fun j hj => ?_⟩
  rw [List.length_take] at hj
  rw [hc j (by omega), List.getD_eq_getElem?_getD, List.getD_eq_getElem?_getD, List.getElem?_take_of_lt (by omega)]
theorem owns_row {w : World} {base g n cv : Nat} {zs : List Int} (h : w.ownsRow base 5 1 (.slice (some ⟨g, 0, none⟩) n cv) n (zs.map (Value.int .u8))) (hl : zs.length = n) : ∃ cur, w.heap[g]? = some (.cells cur 5 (0, 0)) ∧ ∀ j, j < zs.length → cur[j]? = some (.int .u8 (zs.getD j 0)) := by
  rcases h.2 with ⟨h, _⟩ | ⟨g', cap', cur, he, hb, hh, h3, h4, h5, h6⟩
  · simp at h
  · simp only [Value.slice.injEq, Option.some.injEq, Addr.mk.injEq] at he
    obtain ⟨⟨rfl, _, _⟩, _, rfl⟩ := he
    refine ⟨cur, hh, fun j hj => ?_⟩
    have h7 : (zs.map (Value.int .u8))[j]? = cur[j]? := by
      rw [← h6, List.getElem?_take_of_lt (by omega), Array.getElem?_toList]
    rw [← h7, List.getElem?_map, List.getElem?_eq_getElem hj, List.getD_eq_getElem?_getD, List.getElem?_eq_getElem hj]
    rfl
theorem has_of_row {w : World} {g : Nat} {cur : Array Value} {t : TypeId} {zs : List Int} (h : w.heap[g]? = some (.cells cur t (0, 0))) (hc : ∀ j, j < zs.length → cur[j]? = some (.int .u8 (zs.getD j 0))) : Has w (some ⟨g, 0, none⟩) zs :=
  ⟨by simp, fun _ => ⟨g, 0, rfl, lt_of_block h, fun j hj => by rw [arr_cell h, Nat.zero_add]; exact hc j hj⟩⟩
theorem UpPost.err {w w' : World} {zs : List Int} {e : Ending} {c : Int} (h : UpPost w zs e w') (hc : upC zs = c) (h0 : c ≠ 0) : e = .returned (.tuple #[.agg #[.int .u16 0, .int .u16 0, .int .u8 0, .int .u16 0, .int .u8 0, .bool false, .int .u16 0, .int .u16 0, .slice none 0 0], .int .i64 c]) ∧ Below w.heap.size w w' := by
  obtain ⟨hb, h⟩ := h
  rcases h with ⟨h, _⟩ | ⟨_, h⟩
  · exact absurd (hc.symm.trans h) h0
  · rw [hc] at h; exact ⟨h, hb⟩

theorem pow_bd (j : Nat) (h : j < 8) : 1 ≤ (2 : Int) ^ j % 256 ∧ (2 : Int) ^ j % 256 ≤ 255 := by
  rcases (show j = 0 ∨ j = 1 ∨ j = 2 ∨ j = 3 ∨ j = 4 ∨ j = 5 ∨ j = 6 ∨ j = 7 by omega) with rfl | rfl | rfl | rfl | rfl | rfl | rfl | rfl <;> decide
theorem xor_facts (z y : Int) (hz0 : 0 ≤ z) (hz : z ≤ 255) (hy0 : 1 ≤ y) (hy : y ≤ 255) : 0 ≤ bits .xor .u8 z y ∧ bits .xor .u8 z y ≤ 255 ∧ bits .xor .u8 z y ≠ z ∧ bits .xor .u8 (bits .xor .u8 z y) y = z := by
  obtain ⟨a, rfl⟩ := Int.eq_ofNat_of_zero_le hz0
  obtain ⟨b, rfl⟩ := Int.eq_ofNat_of_zero_le (show 0 ≤ y by omega)
  have hlt : a ^^^ b < 256 := Nat.xor_lt_two_pow (n := 8) (by omega) (by omega)
  rw [u8_xor_nat a b (by omega) (by omega)]
  refine ⟨by omega, by omega, ?_, ?_⟩
  · intro h
    have h1 : a ^^^ b = a := by omega
    have h2 : b = 0 := by
      have h3 := congrArg (fun t => a ^^^ t) h1
      simpa [← Nat.xor_assoc] using h3
    omega
  · rw [u8_xor_nat (a ^^^ b) b hlt (by omega), Nat.xor_assoc, Nat.xor_self, Nat.xor_zero]
theorem set_row {cur : Array Value} {L : List Int} (h : ∀ j, j < L.length → cur[j]? = some (.int .u8 (L.getD j 0))) {i : Nat} (hi : i < L.length) (x : Int) : ∀ j, j < (L.set i x).length → (cur.setIfInBounds i (.int .u8 x))[j]? = some (.int .u8 ((L.set i x).getD j 0)) := by
  intro j hj
  rw [List.length_set] at hj
  rw [Array.getElem?_setIfInBounds, List.getD_eq_getElem?_getD, List.getElem?_set]
  by_cases hij : i = j
  · subst hij
    have hs : i < cur.size := (Array.getElem?_eq_some_iff.1 (h i hi)).1
    simp [hs, hi]
  · simp only [hij, if_false]
    rw [h j hj, List.getD_eq_getElem?_getD]
theorem set_getD (L : List Int) (i : Nat) (h : i < L.length) : L.set i (L.getD i 0) = L := by
  rw [List.getD_eq_getElem?_getD, List.getElem?_eq_getElem h]
  exact List.set_getElem_self h

end Go.Proofs.YtajphdppmdoalaaGreat
