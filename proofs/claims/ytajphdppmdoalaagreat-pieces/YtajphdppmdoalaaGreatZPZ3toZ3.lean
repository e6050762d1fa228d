import Derived.Test.YtajphdppmdoalaaGreatZPZ1toZ1
namespace Go.Proofs.YtajphdppmdoalaaGreat
open Go.RowKit
set_option linter.unusedVariables false

set_option maxRecDepth 100000 in
set_option maxHeartbeats 3200000 in
theorem runpack_q_e0 (b o : Nat) (h0 h1 h2 h3 h4 h5 h6 h7 h8 h9 h10 h11 : Int) (w : World)  (hd : Has w (some ⟨b, o, none⟩) ([h0, h1, h2, h3, h4, h5, h6, h7, h8, h9, h10, h11] ++ ([]))) (b0 : 0 ≤ h0 ∧ h0 ≤ 255) (b1 : 0 ≤ h1 ∧ h1 ≤ 255) (b2 : 0 ≤ h2 ∧ h2 ≤ 255) (b3 : 0 ≤ h3 ∧ h3 ≤ 255) (b4 : 0 ≤ h4 ∧ h4 ≤ 255) (b5 : 0 ≤ h5 ∧ h5 ≤ 255) (b6 : 0 ≤ h6 ∧ h6 ≤ 255) (b7 : 0 ≤ h7 ∧ h7 ≤ 255) (b8 : 0 ≤ h8 ∧ h8 ≤ 255) (b9 : 0 ≤ h9 ∧ h9 ≤ 255) (b10 : 0 ≤ h10 ∧ h10 ≤ 255) (b11 : 0 ≤ h11 ∧ h11 ≤ 255) (q8 : (h8 == 0) = false) (q0 : (h0 / 2 != 8) = false) (q9 : h9 = 0) (qs : h10 * 256 + h11 = csum h0 h1 h2 h3 h4 h5 h6 h7 h8 h9) :
    Calls Tryz.prog 32 #[.slice (some ⟨b, o, none⟩) 12 12] w fun e w' => Below w.heap.size w w' ∧
      ((wfB h8 (h0 == 17) 0 0 0 = true ∧ ∃ v, e = .returned (.tuple #[.agg #[.int .u16 (h2 * 256 + h3), .int .u16 (h4 * 256 + h5), .int .u8 h1, .int .u16 (h6 * 256 + h7), .int .u8 h8, .bool (h0 == 17), .int .u16 0, .int .u16 0, v], .int .i64 0]) ∧ w'.ownsRow w.heap.size 5 1 v 0 ([]))
      ∨ (wfB h8 (h0 == 17) 0 0 0 = false ∧ e = .returned (.tuple #[.agg #[.int .u16 0, .int .u16 0, .int .u8 0, .int .u16 0, .int .u8 0, .bool false, .int .u16 0, .int .u16 0, .slice none 0 0], .int .i64 6]))) := by
  have HS := hide qs
  have HD := hide hd
  obtain ⟨b', o', he, hlt, hc⟩ := hd.2 (by simp)
  simp only [Option.some.injEq, Addr.mk.injEq] at he
  obtain ⟨rfl, rfl, _⟩ := he
  have e0 : ∀ O, (w.alloc O).cell? ⟨b, o, none⟩ = some (.int .u8 h0) := fun O => (World.cell?_alloc_past O _ _ hlt).trans (by simpa using hc 0 (by simp))
  have e8 : ∀ O, (w.alloc O).cell? ⟨b, o + 8, none⟩ = some (.int .u8 h8) := fun O => (World.cell?_alloc_past O _ _ hlt).trans (by simpa using hc 8 (by simp))
  have e9 : ∀ O, (w.alloc O).cell? ⟨b, o + 9, none⟩ = some (.int .u8 h9) := fun O => (World.cell?_alloc_past O _ _ hlt).trans (by simpa using hc 9 (by simp))
  have HC := hide hc
  subst q9
  clear hc hd qs
  obtain ⟨i5, hi, hz5, hz6, hz7⟩ := info_parts Tryz.info5
  go_enter Tryz.func32, Tryz.ntmps32
  go_wp2_with fail
  generalize hW1 : w.alloc _ = w1
  have HB1 : Hid (Below w.heap.size w w1) := by rw [← hW1]; exact (Below.refl _ _).alloc (Nat.le_refl _) _
  have HBr : Hid (Below (w.heap.size + 1) (w.alloc (.cells #[.int .u16 0, .int .u16 0, .int .u8 0, .int .u16 0, .int .u8 0, .bool false, .int .u16 0, .int .u16 0, .slice none 0 0] 40)) w1) := by rw [← hW1]; exact Below.refl _ _
  have HD1 : Hid (Has w1 (some ⟨b, o, none⟩) ([h0, h1, h2, h3, h4, h5, h6, h7, h8, 0] ++ ([h10, h11] ++ ([])))) := HD.out.below HB1.out
  clear hW1 e0 e8 e9
  refine (sum_any b o 12 12 h0 h1 h2 h3 h4 h5 h6 h7 h8 0 ([h10, h11] ++ ([])) w1 HD1.out (by omega) (by decide) (by omega) (by omega) (by omega) (by omega) (by omega) (by omega) (by omega) (by omega) (by omega) (by omega)).mono ?_
  rintro e wx ⟨rfl, m1, rfl⟩
  rw [← HS.out]
  have q7 : ((h10 * 256 + h11) != (h10 * 256 + h11)) = false := by simp
  go_wp2_with fail
  refine (number_int b o 12 12 10 10 h10 h11 (by rfl) _ b10 b11 (by omega) (by omega) (by exact (HB1.out.cell (p := ⟨b, o + 10, none⟩) hlt).trans (by simpa using HC.out 10 (by simp))) (by exact (HB1.out.cell (p := ⟨b, o + 11, none⟩) hlt).trans (by simpa using HC.out 11 (by simp)))).mono ?_
  rintro e wx ⟨rfl, m100, rfl⟩
  go_wp2_with fail
  refine (number_int b o 12 12 2 2 h2 h3 (by rfl) _ b2 b3 (by omega) (by omega) (by exact (HB1.out.cell (p := ⟨b, o + 2, none⟩) hlt).trans (by simpa using HC.out 2 (by simp))) (by exact (HB1.out.cell (p := ⟨b, o + 3, none⟩) hlt).trans (by simpa using HC.out 3 (by simp)))).mono ?_
  rintro e wx ⟨rfl, m20, rfl⟩
  go_wp2_with fail
  refine (number_int b o 12 12 4 4 h4 h5 (by rfl) _ b4 b5 (by omega) (by omega) (by exact (HB1.out.cell (p := ⟨b, o + 4, none⟩) hlt).trans (by simpa using HC.out 4 (by simp))) (by exact (HB1.out.cell (p := ⟨b, o + 5, none⟩) hlt).trans (by simpa using HC.out 5 (by simp)))).mono ?_
  rintro e wx ⟨rfl, m40, rfl⟩
  go_wp2_with fail
  refine (number_int b o 12 12 6 6 h6 h7 (by rfl) _ b6 b7 (by omega) (by omega) (by exact (HB1.out.cell (p := ⟨b, o + 6, none⟩) hlt).trans (by simpa using HC.out 6 (by simp))) (by exact (HB1.out.cell (p := ⟨b, o + 7, none⟩) hlt).trans (by simpa using HC.out 7 (by simp)))).mono ?_
  rintro e wx ⟨rfl, m60, rfl⟩
  go_upto_region 15 with (fail)
  generalize hX : w1.drewN (m1 + m100 + m20 + m40 + m60) = wx
  have HBx : Hid (Below w.heap.size w wx) := by rw [← hX]; exact below_drewN HB1.out _
  have HBrx : Hid (Below (w.heap.size + 1) (w.alloc (.cells #[.int .u16 0, .int .u16 0, .int .u8 0, .int .u16 0, .int .u8 0, .bool false, .int .u16 0, .int .u16 0, .slice none 0 0] 40)) wx) := by rw [← hX]; exact below_drewN HBr.out _
  clear hX HB1 HBr HD1
  have f0 : wx.cell? ⟨b, o, none⟩ = some (.int .u8 h0) := (HBx.out.cell (p := ⟨b, o, none⟩) hlt).trans (by simpa using HC.out 0 (by simp))
  have f1 : wx.cell? ⟨b, o + 1, none⟩ = some (.int .u8 h1) := (HBx.out.cell (p := ⟨b, o + 1, none⟩) hlt).trans (by simpa using HC.out 1 (by simp))
  have f8 : wx.cell? ⟨b, o + 8, none⟩ = some (.int .u8 h8) := (HBx.out.cell (p := ⟨b, o + 8, none⟩) hlt).trans (by simpa using HC.out 8 (by simp))
  have hlt1 : b < wx.heap.size := Nat.lt_of_lt_of_le hlt HBx.out.size
  go_region
  clear f0 f1 f8 q7
  have hz1 : w.heap.size < wx.heap.size := by have := HBrx.out.size; simp at this; omega
  go_wp2_with (at_builtin; refine wpList_append_own _ rfl (.tmp 95) (.tmp 96) 38 rfl (wx.heap.size + 1) 5 i5 (.int .u8 0) 1 1 Tryz.underlying38 hi hz5 hz6 hz7 rfl (by decide) _ _ _ rfl (World.ownsRow_nil _ _ _ _) ⟨b, o, none⟩ 0 0 [] rfl rfl (by simp) (by simp) (by decide) (by decide) (by simp) ?_)
  intro v5 w5 hown hgrow hiff
  obtain rfl : v5 = .slice none 0 0 := by first | exact hiff | exact hiff.2 ⟨rfl, rfl⟩
  have HO := hide hown
  clear hown hiff
  have HB5 : Hid (Below (wx.heap.size + 1) ((wx.alloc (.cells #[.int .u16 (h2 * 256 + h3), .int .u16 (h4 * 256 + h5), .int .u8 h1, .int .u16 (h6 * 256 + h7), .int .u8 h8, .bool (h0 == 17), .int .u16 0, .int .u16 0, .slice none 0 0] 40)).drew) w5) := (Below.refl _ _).grown hgrow (by simp) (by simp [Value.ownBlock])
  have HGp : Hid (((wx.alloc (.cells #[.int .u16 (h2 * 256 + h3), .int .u16 (h4 * 256 + h5), .int .u8 h1, .int .u16 (h6 * 256 + h7), .int .u8 h8, .bool (h0 == 17), .int .u16 0, .int .u16 0, .slice none 0 0] 40)).drew).heap[wx.heap.size]? = some (.cells #[.int .u16 (h2 * 256 + h3), .int .u16 (h4 * 256 + h5), .int .u8 h1, .int .u16 (h6 * 256 + h7), .int .u8 h8, .bool (h0 == 17), .int .u16 0, .int .u16 0, .slice none 0 0] 40 (0, 0))) := by
    have h := heap_alloc_new wx (.cells #[.int .u16 (h2 * 256 + h3), .int .u16 (h4 * 256 + h5), .int .u8 h1, .int .u16 (h6 * 256 + h7), .int .u8 h8, .bool (h0 == 17), .int .u16 0, .int .u16 0, .slice none 0 0] 40)
    exact h
  have hB6 : Below wx.heap.size wx ((wx.alloc (.cells #[.int .u16 (h2 * 256 + h3), .int .u16 (h4 * 256 + h5), .int .u8 h1, .int .u16 (h6 * 256 + h7), .int .u8 h8, .bool (h0 == 17), .int .u16 0, .int .u16 0, .slice none 0 0] 40)).drew) := by
    exact ((Below.refl _ _).alloc (Nat.le_refl _) _).drew
  have HBx5 : Hid (Below wx.heap.size wx w5) := hB6.trans (HB5.out.mono (by omega))
  have cp : ∀ j, w5.cell? ⟨wx.heap.size, j, none⟩ = #[.int .u16 (h2 * 256 + h3), .int .u16 (h4 * 256 + h5), .int .u8 h1, .int .u16 (h6 * 256 + h7), .int .u8 h8, .bool (h0 == 17), .int .u16 0, .int .u16 0, .slice none 0 0][j]? := arr_cell ((HB5.out.block _ (by omega)).trans HGp.out)
  have fp : ∀ j, w5.frozen? ⟨wx.heap.size, j, none⟩ = false := arr_frozen ((HB5.out.block _ (by omega)).trans HGp.out)
  have HR5 : Hid (w5.heap[w.heap.size]? = some (.cells #[.int .u16 0, .int .u16 0, .int .u8 0, .int .u16 0, .int .u8 0, .bool false, .int .u16 0, .int .u16 0, .slice none 0 0] 40 (0, 0))) := (HBx5.out.block _ hz1).trans ((HBrx.out.block _ (by omega)).trans (heap_alloc_new _ _))
  have cr := arr_cell HR5.out
  have fr := arr_frozen HR5.out
  have hz5a : wx.heap.size < w5.heap.size := by have := HB5.out.size; simp at this; omega
  have hz5b : w.heap.size < w5.heap.size := by omega
  have hne0 : ¬ wx.heap.size = w.heap.size := by omega
  have hne1 : ¬ w.heap.size = wx.heap.size := by omega
  have HW5 : Hid (Below w.heap.size w w5) := HBx.out.trans (HBx5.out.mono (by omega))
  clear hgrow hB6 HGp HB5 HBx5 HBx HBrx HR5 HC HD hlt hlt1
  go_wp2_with fail
  refine (formed_any (h2 * 256 + h3) (h4 * 256 + h5) h1 (h6 * 256 + h7) h8 (h0 == 17) 0 0 none 0 0 _ (by omega) (by decide)).mono ?_
  rintro e w6 ⟨rfl, o6, rfl⟩
  cases hw : wfB h8 (h0 == 17) 0 0 0
  · have HW := hide hw
    clear hw
    go_wp2
    refine bodyPost_ret (v := .tuple #[.agg #[.int .u16 0, .int .u16 0, .int .u8 0, .int .u16 0, .int .u8 0, .bool false, .int .u16 0, .int .u16 0, .slice none 0 0], .int .i64 6]) ?_ rfl ⟨?_, .inr ⟨HW.out, rfl⟩⟩
    all_goals go_light
    · simp [results, Tryz.results32, go_sem, cr, hz5b]
    · repeat' first | with_reducible exact HW5.out | with_reducible refine Below.setCell ?_ ?_ _ | with_reducible refine Below.alloc ?_ ?_ _
      all_goals (simp; try omega)
  · have HW := hide hw
    clear hw
    go_wp2
    refine bodyPost_ret (v := .tuple #[.agg #[.int .u16 (h2 * 256 + h3), .int .u16 (h4 * 256 + h5), .int .u8 h1, .int .u16 (h6 * 256 + h7), .int .u8 h8, .bool (h0 == 17), .int .u16 0, .int .u16 0, .slice none 0 0], .int .i64 0]) ?_ rfl ⟨?_, .inl ⟨HW.out, _, rfl, ?_⟩⟩
    all_goals go_light
    · simp [results, Tryz.results32, go_sem, cr, hz5b]
    · repeat' first | with_reducible exact HW5.out | with_reducible refine Below.setCell ?_ ?_ _ | with_reducible refine Below.alloc ?_ ?_ _
      all_goals (simp; try omega)
    · refine ownsRow_base (base := wx.heap.size + 1) ?_ (by omega)
      repeat' first | with_reducible exact HO.out | with_reducible refine ownsRow_setCell_below ?_ ?_ _ | with_reducible refine World.ownsRow.alloc ?_ _
      all_goals (simp; try omega)

set_option maxRecDepth 100000 in
set_option maxHeartbeats 3200000 in
theorem runpack_q_e1 (b o cap : Nat) (h0 h1 h2 h3 h4 h5 h6 h7 h8 h9 h10 h11 : Int) (w : World) (hcap : 12 < cap) (hm : cap ≤ maxLen) (hd : Has w (some ⟨b, o, none⟩) ([h0, h1, h2, h3, h4, h5, h6, h7, h8, h9, h10, h11] ++ ([]))) (b0 : 0 ≤ h0 ∧ h0 ≤ 255) (b1 : 0 ≤ h1 ∧ h1 ≤ 255) (b2 : 0 ≤ h2 ∧ h2 ≤ 255) (b3 : 0 ≤ h3 ∧ h3 ≤ 255) (b4 : 0 ≤ h4 ∧ h4 ≤ 255) (b5 : 0 ≤ h5 ∧ h5 ≤ 255) (b6 : 0 ≤ h6 ∧ h6 ≤ 255) (b7 : 0 ≤ h7 ∧ h7 ≤ 255) (b8 : 0 ≤ h8 ∧ h8 ≤ 255) (b9 : 0 ≤ h9 ∧ h9 ≤ 255) (b10 : 0 ≤ h10 ∧ h10 ≤ 255) (b11 : 0 ≤ h11 ∧ h11 ≤ 255) (q8 : (h8 == 0) = false) (q0 : (h0 / 2 != 8) = false) (q9 : h9 = 0) (qs : h10 * 256 + h11 = csum h0 h1 h2 h3 h4 h5 h6 h7 h8 h9) :
    Calls Tryz.prog 32 #[.slice (some ⟨b, o, none⟩) 12 cap] w fun e w' => Below w.heap.size w w' ∧
      ((wfB h8 (h0 == 17) 0 0 0 = true ∧ ∃ v, e = .returned (.tuple #[.agg #[.int .u16 (h2 * 256 + h3), .int .u16 (h4 * 256 + h5), .int .u8 h1, .int .u16 (h6 * 256 + h7), .int .u8 h8, .bool (h0 == 17), .int .u16 0, .int .u16 0, v], .int .i64 0]) ∧ w'.ownsRow w.heap.size 5 1 v 0 ([]))
      ∨ (wfB h8 (h0 == 17) 0 0 0 = false ∧ e = .returned (.tuple #[.agg #[.int .u16 0, .int .u16 0, .int .u8 0, .int .u16 0, .int .u8 0, .bool false, .int .u16 0, .int .u16 0, .slice none 0 0], .int .i64 6]))) := by
  unfold maxLen at hm
  have HS := hide qs
  have HD := hide hd
  obtain ⟨b', o', he, hlt, hc⟩ := hd.2 (by simp)
  simp only [Option.some.injEq, Addr.mk.injEq] at he
  obtain ⟨rfl, rfl, _⟩ := he
  have e0 : ∀ O, (w.alloc O).cell? ⟨b, o, none⟩ = some (.int .u8 h0) := fun O => (World.cell?_alloc_past O _ _ hlt).trans (by simpa using hc 0 (by simp))
  have e8 : ∀ O, (w.alloc O).cell? ⟨b, o + 8, none⟩ = some (.int .u8 h8) := fun O => (World.cell?_alloc_past O _ _ hlt).trans (by simpa using hc 8 (by simp))
  have e9 : ∀ O, (w.alloc O).cell? ⟨b, o + 9, none⟩ = some (.int .u8 h9) := fun O => (World.cell?_alloc_past O _ _ hlt).trans (by simpa using hc 9 (by simp))
  have HC := hide hc
  subst q9
  clear hc hd qs
  obtain ⟨i5, hi, hz5, hz6, hz7⟩ := info_parts Tryz.info5
  go_enter Tryz.func32, Tryz.ntmps32
  go_wp2_with fail
  generalize hW1 : w.alloc _ = w1
  have HB1 : Hid (Below w.heap.size w w1) := by rw [← hW1]; exact (Below.refl _ _).alloc (Nat.le_refl _) _
  have HBr : Hid (Below (w.heap.size + 1) (w.alloc (.cells #[.int .u16 0, .int .u16 0, .int .u8 0, .int .u16 0, .int .u8 0, .bool false, .int .u16 0, .int .u16 0, .slice none 0 0] 40)) w1) := by rw [← hW1]; exact Below.refl _ _
  have HD1 : Hid (Has w1 (some ⟨b, o, none⟩) ([h0, h1, h2, h3, h4, h5, h6, h7, h8, 0] ++ ([h10, h11] ++ ([])))) := HD.out.below HB1.out
  clear hW1 e0 e8 e9
  refine (sum_any b o 12 cap h0 h1 h2 h3 h4 h5 h6 h7 h8 0 ([h10, h11] ++ ([])) w1 HD1.out (by omega) (by decide) (by omega) (by omega) (by omega) (by omega) (by omega) (by omega) (by omega) (by omega) (by omega) (by omega)).mono ?_
  rintro e wx ⟨rfl, m1, rfl⟩
  rw [← HS.out]
  have q7 : ((h10 * 256 + h11) != (h10 * 256 + h11)) = false := by simp
  go_wp2_with fail
  refine (number_int b o 12 cap 10 10 h10 h11 (by rfl) _ b10 b11 (by omega) (by omega) (by exact (HB1.out.cell (p := ⟨b, o + 10, none⟩) hlt).trans (by simpa using HC.out 10 (by simp))) (by exact (HB1.out.cell (p := ⟨b, o + 11, none⟩) hlt).trans (by simpa using HC.out 11 (by simp)))).mono ?_
  rintro e wx ⟨rfl, m100, rfl⟩
  go_wp2_with fail
  refine (number_int b o 12 cap 2 2 h2 h3 (by rfl) _ b2 b3 (by omega) (by omega) (by exact (HB1.out.cell (p := ⟨b, o + 2, none⟩) hlt).trans (by simpa using HC.out 2 (by simp))) (by exact (HB1.out.cell (p := ⟨b, o + 3, none⟩) hlt).trans (by simpa using HC.out 3 (by simp)))).mono ?_
  rintro e wx ⟨rfl, m20, rfl⟩
  go_wp2_with fail
  refine (number_int b o 12 cap 4 4 h4 h5 (by rfl) _ b4 b5 (by omega) (by omega) (by exact (HB1.out.cell (p := ⟨b, o + 4, none⟩) hlt).trans (by simpa using HC.out 4 (by simp))) (by exact (HB1.out.cell (p := ⟨b, o + 5, none⟩) hlt).trans (by simpa using HC.out 5 (by simp)))).mono ?_
  rintro e wx ⟨rfl, m40, rfl⟩
  go_wp2_with fail
  refine (number_int b o 12 cap 6 6 h6 h7 (by rfl) _ b6 b7 (by omega) (by omega) (by exact (HB1.out.cell (p := ⟨b, o + 6, none⟩) hlt).trans (by simpa using HC.out 6 (by simp))) (by exact (HB1.out.cell (p := ⟨b, o + 7, none⟩) hlt).trans (by simpa using HC.out 7 (by simp)))).mono ?_
  rintro e wx ⟨rfl, m60, rfl⟩
  go_upto_region 15 with (fail)
  generalize hX : w1.drewN (m1 + m100 + m20 + m40 + m60) = wx
  have HBx : Hid (Below w.heap.size w wx) := by rw [← hX]; exact below_drewN HB1.out _
  have HBrx : Hid (Below (w.heap.size + 1) (w.alloc (.cells #[.int .u16 0, .int .u16 0, .int .u8 0, .int .u16 0, .int .u8 0, .bool false, .int .u16 0, .int .u16 0, .slice none 0 0] 40)) wx) := by rw [← hX]; exact below_drewN HBr.out _
  clear hX HB1 HBr HD1
  have f0 : wx.cell? ⟨b, o, none⟩ = some (.int .u8 h0) := (HBx.out.cell (p := ⟨b, o, none⟩) hlt).trans (by simpa using HC.out 0 (by simp))
  have f1 : wx.cell? ⟨b, o + 1, none⟩ = some (.int .u8 h1) := (HBx.out.cell (p := ⟨b, o + 1, none⟩) hlt).trans (by simpa using HC.out 1 (by simp))
  have f8 : wx.cell? ⟨b, o + 8, none⟩ = some (.int .u8 h8) := (HBx.out.cell (p := ⟨b, o + 8, none⟩) hlt).trans (by simpa using HC.out 8 (by simp))
  have hlt1 : b < wx.heap.size := Nat.lt_of_lt_of_le hlt HBx.out.size
  go_region
  clear f0 f1 f8 q7
  have hz1 : w.heap.size < wx.heap.size := by have := HBrx.out.size; simp at this; omega
  go_wp2_with (at_builtin; refine wpList_append_own _ rfl (.tmp 95) (.tmp 96) 38 rfl (wx.heap.size + 1) 5 i5 (.int .u8 0) 1 1 Tryz.underlying38 hi hz5 hz6 hz7 rfl (by decide) _ _ _ rfl (World.ownsRow_nil _ _ _ _) ⟨b, o + 12, none⟩ 0 (cap - 12) [] rfl rfl (by simp) (by simp) (by decide) (by decide) (by simp) ?_)
  intro v5 w5 hown hgrow hiff
  obtain rfl : v5 = .slice none 0 0 := by first | exact hiff | exact hiff.2 ⟨rfl, rfl⟩
  have HO := hide hown
  clear hown hiff
  have HB5 : Hid (Below (wx.heap.size + 1) ((wx.alloc (.cells #[.int .u16 (h2 * 256 + h3), .int .u16 (h4 * 256 + h5), .int .u8 h1, .int .u16 (h6 * 256 + h7), .int .u8 h8, .bool (h0 == 17), .int .u16 0, .int .u16 0, .slice none 0 0] 40)).drew) w5) := (Below.refl _ _).grown hgrow (by simp) (by simp [Value.ownBlock])
  have HGp : Hid (((wx.alloc (.cells #[.int .u16 (h2 * 256 + h3), .int .u16 (h4 * 256 + h5), .int .u8 h1, .int .u16 (h6 * 256 + h7), .int .u8 h8, .bool (h0 == 17), .int .u16 0, .int .u16 0, .slice none 0 0] 40)).drew).heap[wx.heap.size]? = some (.cells #[.int .u16 (h2 * 256 + h3), .int .u16 (h4 * 256 + h5), .int .u8 h1, .int .u16 (h6 * 256 + h7), .int .u8 h8, .bool (h0 == 17), .int .u16 0, .int .u16 0, .slice none 0 0] 40 (0, 0))) := by
    have h := heap_alloc_new wx (.cells #[.int .u16 (h2 * 256 + h3), .int .u16 (h4 * 256 + h5), .int .u8 h1, .int .u16 (h6 * 256 + h7), .int .u8 h8, .bool (h0 == 17), .int .u16 0, .int .u16 0, .slice none 0 0] 40)
    exact h
  have hB6 : Below wx.heap.size wx ((wx.alloc (.cells #[.int .u16 (h2 * 256 + h3), .int .u16 (h4 * 256 + h5), .int .u8 h1, .int .u16 (h6 * 256 + h7), .int .u8 h8, .bool (h0 == 17), .int .u16 0, .int .u16 0, .slice none 0 0] 40)).drew) := by
    exact ((Below.refl _ _).alloc (Nat.le_refl _) _).drew
  have HBx5 : Hid (Below wx.heap.size wx w5) := hB6.trans (HB5.out.mono (by omega))
  have cp : ∀ j, w5.cell? ⟨wx.heap.size, j, none⟩ = #[.int .u16 (h2 * 256 + h3), .int .u16 (h4 * 256 + h5), .int .u8 h1, .int .u16 (h6 * 256 + h7), .int .u8 h8, .bool (h0 == 17), .int .u16 0, .int .u16 0, .slice none 0 0][j]? := arr_cell ((HB5.out.block _ (by omega)).trans HGp.out)
  have fp : ∀ j, w5.frozen? ⟨wx.heap.size, j, none⟩ = false := arr_frozen ((HB5.out.block _ (by omega)).trans HGp.out)
  have HR5 : Hid (w5.heap[w.heap.size]? = some (.cells #[.int .u16 0, .int .u16 0, .int .u8 0, .int .u16 0, .int .u8 0, .bool false, .int .u16 0, .int .u16 0, .slice none 0 0] 40 (0, 0))) := (HBx5.out.block _ hz1).trans ((HBrx.out.block _ (by omega)).trans (heap_alloc_new _ _))
  have cr := arr_cell HR5.out
  have fr := arr_frozen HR5.out
  have hz5a : wx.heap.size < w5.heap.size := by have := HB5.out.size; simp at this; omega
  have hz5b : w.heap.size < w5.heap.size := by omega
  have hne0 : ¬ wx.heap.size = w.heap.size := by omega
  have hne1 : ¬ w.heap.size = wx.heap.size := by omega
  have HW5 : Hid (Below w.heap.size w w5) := HBx.out.trans (HBx5.out.mono (by omega))
  clear hgrow hB6 HGp HB5 HBx5 HBx HBrx HR5 HC HD hlt hlt1
  go_wp2_with fail
  refine (formed_any (h2 * 256 + h3) (h4 * 256 + h5) h1 (h6 * 256 + h7) h8 (h0 == 17) 0 0 none 0 0 _ (by omega) (by decide)).mono ?_
  rintro e w6 ⟨rfl, o6, rfl⟩
  cases hw : wfB h8 (h0 == 17) 0 0 0
  · have HW := hide hw
    clear hw
    go_wp2
    refine bodyPost_ret (v := .tuple #[.agg #[.int .u16 0, .int .u16 0, .int .u8 0, .int .u16 0, .int .u8 0, .bool false, .int .u16 0, .int .u16 0, .slice none 0 0], .int .i64 6]) ?_ rfl ⟨?_, .inr ⟨HW.out, rfl⟩⟩
    all_goals go_light
    · simp [results, Tryz.results32, go_sem, cr, hz5b]
    · repeat' first | with_reducible exact HW5.out | with_reducible refine Below.setCell ?_ ?_ _ | with_reducible refine Below.alloc ?_ ?_ _
      all_goals (simp; try omega)
  · have HW := hide hw
    clear hw
    go_wp2
    refine bodyPost_ret (v := .tuple #[.agg #[.int .u16 (h2 * 256 + h3), .int .u16 (h4 * 256 + h5), .int .u8 h1, .int .u16 (h6 * 256 + h7), .int .u8 h8, .bool (h0 == 17), .int .u16 0, .int .u16 0, .slice none 0 0], .int .i64 0]) ?_ rfl ⟨?_, .inl ⟨HW.out, _, rfl, ?_⟩⟩
    all_goals go_light
    · simp [results, Tryz.results32, go_sem, cr, hz5b]
    · repeat' first | with_reducible exact HW5.out | with_reducible refine Below.setCell ?_ ?_ _ | with_reducible refine Below.alloc ?_ ?_ _
      all_goals (simp; try omega)
    · refine ownsRow_base (base := wx.heap.size + 1) ?_ (by omega)
      repeat' first | with_reducible exact HO.out | with_reducible refine ownsRow_setCell_below ?_ ?_ _ | with_reducible refine World.ownsRow.alloc ?_ _
      all_goals (simp; try omega)

set_option maxRecDepth 100000 in
set_option maxHeartbeats 3200000 in
theorem runpack_q_ne (b o n cap : Nat) (h0 h1 h2 h3 h4 h5 h6 h7 h8 h9 h10 h11 : Int) (d : List Int) (w : World) (hn : 12 + d.length = n) (hd0 : 0 < d.length) (hnm : n ≤ cap) (hm : cap ≤ maxLen) (hd : Has w (some ⟨b, o, none⟩) ([h0, h1, h2, h3, h4, h5, h6, h7, h8, h9, h10, h11] ++ (d))) (b0 : 0 ≤ h0 ∧ h0 ≤ 255) (b1 : 0 ≤ h1 ∧ h1 ≤ 255) (b2 : 0 ≤ h2 ∧ h2 ≤ 255) (b3 : 0 ≤ h3 ∧ h3 ≤ 255) (b4 : 0 ≤ h4 ∧ h4 ≤ 255) (b5 : 0 ≤ h5 ∧ h5 ≤ 255) (b6 : 0 ≤ h6 ∧ h6 ≤ 255) (b7 : 0 ≤ h7 ∧ h7 ≤ 255) (b8 : 0 ≤ h8 ∧ h8 ≤ 255) (b9 : 0 ≤ h9 ∧ h9 ≤ 255) (b10 : 0 ≤ h10 ∧ h10 ≤ 255) (b11 : 0 ≤ h11 ∧ h11 ≤ 255) (q8 : (h8 == 0) = false) (q0 : (h0 / 2 != 8) = false) (q9 : h9 = (d.length : Int)) (qs : h10 * 256 + h11 = csum h0 h1 h2 h3 h4 h5 h6 h7 h8 h9) :
    Calls Tryz.prog 32 #[.slice (some ⟨b, o, none⟩) n cap] w fun e w' => Below w.heap.size w w' ∧
      ((wfB h8 (h0 == 17) 0 0 d.length = true ∧ ∃ v, e = .returned (.tuple #[.agg #[.int .u16 (h2 * 256 + h3), .int .u16 (h4 * 256 + h5), .int .u8 h1, .int .u16 (h6 * 256 + h7), .int .u8 h8, .bool (h0 == 17), .int .u16 0, .int .u16 0, v], .int .i64 0]) ∧ w'.ownsRow w.heap.size 5 1 v d.length (d.map (Value.int .u8)))
      ∨ (wfB h8 (h0 == 17) 0 0 d.length = false ∧ e = .returned (.tuple #[.agg #[.int .u16 0, .int .u16 0, .int .u8 0, .int .u16 0, .int .u8 0, .bool false, .int .u16 0, .int .u16 0, .slice none 0 0], .int .i64 6]))) := by
  unfold maxLen at hm
  have HS := hide qs
  have HD := hide hd
  obtain ⟨b', o', he, hlt, hc⟩ := hd.2 (by simp)
  simp only [Option.some.injEq, Addr.mk.injEq] at he
  obtain ⟨rfl, rfl, _⟩ := he
  have e0 : ∀ O, (w.alloc O).cell? ⟨b, o, none⟩ = some (.int .u8 h0) := fun O => (World.cell?_alloc_past O _ _ hlt).trans (by simpa using hc 0 (by simp))
  have e8 : ∀ O, (w.alloc O).cell? ⟨b, o + 8, none⟩ = some (.int .u8 h8) := fun O => (World.cell?_alloc_past O _ _ hlt).trans (by simpa using hc 8 (by simp))
  have e9 : ∀ O, (w.alloc O).cell? ⟨b, o + 9, none⟩ = some (.int .u8 h9) := fun O => (World.cell?_alloc_past O _ _ hlt).trans (by simpa using hc 9 (by simp))
  have HC := hide hc
  have qn : (h9 + 12 != (n : Int)) = false := by simp; omega
  have j0 : (0 : Int) < (n : Int) := by omega
  have j1 : (1 : Int) < (n : Int) := by omega
  have j8 : (8 : Int) < (n : Int) := by omega
  have j9 : (9 : Int) < (n : Int) := by omega
  have HN := hide hn
  have HD0 := hide hd0
  have HB9 : Hid (d.length ≤ 255) := by show d.length ≤ 255; omega
  have q4 : 0 ≤ h9 := by omega
  have hq12 : 12 < n := by omega
  have hq13 : ((12 : Nat) : Int) < (n : Int) := by omega
  have hc12 : 12 < cap := by omega
  have hnl : n ≤ 9223372036854775807 := by omega
  clear hn hd0 q9
  clear hc hd qs
  obtain ⟨i5, hi, hz5, hz6, hz7⟩ := info_parts Tryz.info5
  go_enter Tryz.func32, Tryz.ntmps32
  go_wp2_with fail
  generalize hW1 : w.alloc _ = w1
  have HB1 : Hid (Below w.heap.size w w1) := by rw [← hW1]; exact (Below.refl _ _).alloc (Nat.le_refl _) _
  have HBr : Hid (Below (w.heap.size + 1) (w.alloc (.cells #[.int .u16 0, .int .u16 0, .int .u8 0, .int .u16 0, .int .u8 0, .bool false, .int .u16 0, .int .u16 0, .slice none 0 0] 40)) w1) := by rw [← hW1]; exact Below.refl _ _
  have HD1 : Hid (Has w1 (some ⟨b, o, none⟩) ([h0, h1, h2, h3, h4, h5, h6, h7, h8, h9] ++ ([h10, h11] ++ (d)))) := HD.out.below HB1.out
  clear hW1 e0 e8 e9
  refine (sum_any b o n cap h0 h1 h2 h3 h4 h5 h6 h7 h8 h9 ([h10, h11] ++ (d)) w1 HD1.out (by omega) hnl (by omega) (by omega) (by omega) (by omega) (by omega) (by omega) (by omega) (by omega) (by omega) (by omega)).mono ?_
  rintro e wx ⟨rfl, m1, rfl⟩
  rw [← HS.out]
  have q7 : ((h10 * 256 + h11) != (h10 * 256 + h11)) = false := by simp
  go_wp2_with fail
  refine (number_int b o n cap 10 10 h10 h11 (by rfl) _ b10 b11 (by omega) (by omega) (by exact (HB1.out.cell (p := ⟨b, o + 10, none⟩) hlt).trans (by simpa using HC.out 10 (by simp))) (by exact (HB1.out.cell (p := ⟨b, o + 11, none⟩) hlt).trans (by simpa using HC.out 11 (by simp)))).mono ?_
  rintro e wx ⟨rfl, m100, rfl⟩
  go_wp2_with fail
  refine (number_int b o n cap 2 2 h2 h3 (by rfl) _ b2 b3 (by omega) (by omega) (by exact (HB1.out.cell (p := ⟨b, o + 2, none⟩) hlt).trans (by simpa using HC.out 2 (by simp))) (by exact (HB1.out.cell (p := ⟨b, o + 3, none⟩) hlt).trans (by simpa using HC.out 3 (by simp)))).mono ?_
  rintro e wx ⟨rfl, m20, rfl⟩
  go_wp2_with fail
  refine (number_int b o n cap 4 4 h4 h5 (by rfl) _ b4 b5 (by omega) (by omega) (by exact (HB1.out.cell (p := ⟨b, o + 4, none⟩) hlt).trans (by simpa using HC.out 4 (by simp))) (by exact (HB1.out.cell (p := ⟨b, o + 5, none⟩) hlt).trans (by simpa using HC.out 5 (by simp)))).mono ?_
  rintro e wx ⟨rfl, m40, rfl⟩
  go_wp2_with fail
  refine (number_int b o n cap 6 6 h6 h7 (by rfl) _ b6 b7 (by omega) (by omega) (by exact (HB1.out.cell (p := ⟨b, o + 6, none⟩) hlt).trans (by simpa using HC.out 6 (by simp))) (by exact (HB1.out.cell (p := ⟨b, o + 7, none⟩) hlt).trans (by simpa using HC.out 7 (by simp)))).mono ?_
  rintro e wx ⟨rfl, m60, rfl⟩
  go_upto_region 15 with (fail)
  generalize hX : w1.drewN (m1 + m100 + m20 + m40 + m60) = wx
  have HBx : Hid (Below w.heap.size w wx) := by rw [← hX]; exact below_drewN HB1.out _
  have HBrx : Hid (Below (w.heap.size + 1) (w.alloc (.cells #[.int .u16 0, .int .u16 0, .int .u8 0, .int .u16 0, .int .u8 0, .bool false, .int .u16 0, .int .u16 0, .slice none 0 0] 40)) wx) := by rw [← hX]; exact below_drewN HBr.out _
  clear hX HB1 HBr HD1
  have f0 : wx.cell? ⟨b, o, none⟩ = some (.int .u8 h0) := (HBx.out.cell (p := ⟨b, o, none⟩) hlt).trans (by simpa using HC.out 0 (by simp))
  have f1 : wx.cell? ⟨b, o + 1, none⟩ = some (.int .u8 h1) := (HBx.out.cell (p := ⟨b, o + 1, none⟩) hlt).trans (by simpa using HC.out 1 (by simp))
  have f8 : wx.cell? ⟨b, o + 8, none⟩ = some (.int .u8 h8) := (HBx.out.cell (p := ⟨b, o + 8, none⟩) hlt).trans (by simpa using HC.out 8 (by simp))
  have hlt1 : b < wx.heap.size := Nat.lt_of_lt_of_le hlt HBx.out.size
  have jn0 : 0 < n := by omega
  go_region
  clear f0 f1 f8 q7
  have hz1 : w.heap.size < wx.heap.size := by have := HBrx.out.size; simp at this; omega
  have EN : Hid (∀ j u, (d.map (Value.int .u8))[j]? = some u → ((wx.alloc (.cells #[.int .u16 (h2 * 256 + h3), .int .u16 (h4 * 256 + h5), .int .u8 h1, .int .u16 (h6 * 256 + h7), .int .u8 h8, .bool (h0 == 17), .int .u16 0, .int .u16 0, .slice none 0 0] 40)).drew).cell? ((⟨b, o + 12, none⟩ : Addr).add j) = some u) := by
    intro j u hu
    have hj : j < d.length := by
      by_cases hj : j < d.length
      · exact hj
      · rw [List.getElem?_eq_none (by simp; omega)] at hu; exact absurd hu (by simp)
    rw [List.getElem?_map, List.getElem?_eq_getElem hj] at hu
    simp only [Option.map_some, Option.some.injEq] at hu
    subst hu
    rw [show (⟨b, o + 12, none⟩ : Addr).add j = ⟨b, o + (12 + j), none⟩ from by cases j <;> simp [Addr.add] <;> omega]
    have h := HC.out (12 + j) (by simp; omega)
    have hB : Below wx.heap.size wx ((wx.alloc (.cells #[.int .u16 (h2 * 256 + h3), .int .u16 (h4 * 256 + h5), .int .u8 h1, .int .u16 (h6 * 256 + h7), .int .u8 h8, .bool (h0 == 17), .int .u16 0, .int .u16 0, .slice none 0 0] 40)).drew) := by
      exact ((Below.refl _ _).alloc (Nat.le_refl _) _).drew
    refine Eq.trans (hB.cell (p := ⟨b, o + (12 + j), none⟩) hlt1) ((HBx.out.cell (p := ⟨b, o + (12 + j), none⟩) hlt).trans (h.trans ?_))
    rw [List.getD_eq_getElem?_getD, List.getElem?_append_right (by simp), show 12 + j - ([h0, h1, h2, h3, h4, h5, h6, h7, h8, h9, h10, h11] : List Int).length = j from by simp, List.getElem?_eq_getElem hj]
    rfl
  have hl : d.length = (n - 12) := by have := HN.out; omega
  have HLn := hide hl
  go_wp2_with (at_builtin; refine wpList_append_own _ rfl (.tmp 95) (.tmp 96) 38 rfl (wx.heap.size + 1) 5 i5 (.int .u8 0) 1 1 Tryz.underlying38 hi hz5 hz6 hz7 rfl (by decide) _ _ _ rfl (World.ownsRow_nil _ _ _ _) ⟨b, o + 12, none⟩ (n - 12) (cap - 12) (d.map (Value.int .u8)) rfl (by simp [HLn.out]) EN.out (ints_oneCell _ _) (by have := HLn.out; have := HB9.out; unfold maxLen; omega) (by have := HLn.out; have := HB9.out; omega) (by simp) ?_)
  intro v5 w5 hown hgrow hiff
  have hnn : v5 ≠ .slice none 0 0 := by
    intro h
    have hmm := by first | exact hiff.1 h | exact (hiff.1 h).2
    have := HLn.out
    have := HD0.out
    omega
  have HO := hide hown
  obtain ⟨g, cv, rfl⟩ := (own_shape hown).resolve_left hnn
  clear hown hiff hnn
  have HB5 : Hid (Below (wx.heap.size + 1) ((wx.alloc (.cells #[.int .u16 (h2 * 256 + h3), .int .u16 (h4 * 256 + h5), .int .u8 h1, .int .u16 (h6 * 256 + h7), .int .u8 h8, .bool (h0 == 17), .int .u16 0, .int .u16 0, .slice none 0 0] 40)).drew) w5) := (Below.refl _ _).grown hgrow (by simp) (by simp [Value.ownBlock])
  have HGp : Hid (((wx.alloc (.cells #[.int .u16 (h2 * 256 + h3), .int .u16 (h4 * 256 + h5), .int .u8 h1, .int .u16 (h6 * 256 + h7), .int .u8 h8, .bool (h0 == 17), .int .u16 0, .int .u16 0, .slice none 0 0] 40)).drew).heap[wx.heap.size]? = some (.cells #[.int .u16 (h2 * 256 + h3), .int .u16 (h4 * 256 + h5), .int .u8 h1, .int .u16 (h6 * 256 + h7), .int .u8 h8, .bool (h0 == 17), .int .u16 0, .int .u16 0, .slice none 0 0] 40 (0, 0))) := by
    have h := heap_alloc_new wx (.cells #[.int .u16 (h2 * 256 + h3), .int .u16 (h4 * 256 + h5), .int .u8 h1, .int .u16 (h6 * 256 + h7), .int .u8 h8, .bool (h0 == 17), .int .u16 0, .int .u16 0, .slice none 0 0] 40)
    exact h
  have hB6 : Below wx.heap.size wx ((wx.alloc (.cells #[.int .u16 (h2 * 256 + h3), .int .u16 (h4 * 256 + h5), .int .u8 h1, .int .u16 (h6 * 256 + h7), .int .u8 h8, .bool (h0 == 17), .int .u16 0, .int .u16 0, .slice none 0 0] 40)).drew) := by
    exact ((Below.refl _ _).alloc (Nat.le_refl _) _).drew
  have HBx5 : Hid (Below wx.heap.size wx w5) := hB6.trans (HB5.out.mono (by omega))
  have cp : ∀ j, w5.cell? ⟨wx.heap.size, j, none⟩ = #[.int .u16 (h2 * 256 + h3), .int .u16 (h4 * 256 + h5), .int .u8 h1, .int .u16 (h6 * 256 + h7), .int .u8 h8, .bool (h0 == 17), .int .u16 0, .int .u16 0, .slice none 0 0][j]? := arr_cell ((HB5.out.block _ (by omega)).trans HGp.out)
  have fp : ∀ j, w5.frozen? ⟨wx.heap.size, j, none⟩ = false := arr_frozen ((HB5.out.block _ (by omega)).trans HGp.out)
  have HR5 : Hid (w5.heap[w.heap.size]? = some (.cells #[.int .u16 0, .int .u16 0, .int .u8 0, .int .u16 0, .int .u8 0, .bool false, .int .u16 0, .int .u16 0, .slice none 0 0] 40 (0, 0))) := (HBx5.out.block _ hz1).trans ((HBrx.out.block _ (by omega)).trans (heap_alloc_new _ _))
  have cr := arr_cell HR5.out
  have fr := arr_frozen HR5.out
  have hz5a : wx.heap.size < w5.heap.size := by have := HB5.out.size; simp at this; omega
  have hz5b : w.heap.size < w5.heap.size := by omega
  have hne0 : ¬ wx.heap.size = w.heap.size := by omega
  have hne1 : ¬ w.heap.size = wx.heap.size := by omega
  have HW5 : Hid (Below w.heap.size w w5) := HBx.out.trans (HBx5.out.mono (by omega))
  clear hgrow hB6 HGp HB5 HBx5 HBx HBrx HR5 HC HD hlt hlt1 EN
  go_wp2_with fail
  refine (formed_any (h2 * 256 + h3) (h4 * 256 + h5) h1 (h6 * 256 + h7) h8 (h0 == 17) 0 0 (some ⟨g, 0, none⟩) (n - 12) cv _ (by omega) (by have := HLn.out; have := HB9.out; unfold maxLen; omega)).mono ?_
  rintro e w6 ⟨rfl, o6, rfl⟩
  cases hw : wfB h8 (h0 == 17) 0 0 (n - 12)
  · have HW := hide hw
    clear hw
    go_wp2
    refine bodyPost_ret (v := .tuple #[.agg #[.int .u16 0, .int .u16 0, .int .u8 0, .int .u16 0, .int .u8 0, .bool false, .int .u16 0, .int .u16 0, .slice none 0 0], .int .i64 6]) ?_ rfl ⟨?_, .inr ⟨by rw [HLn.out]; exact HW.out, rfl⟩⟩
    all_goals go_light
    · simp [results, Tryz.results32, go_sem, cr, hz5b]
    · repeat' first | with_reducible exact HW5.out | with_reducible refine Below.setCell ?_ ?_ _ | with_reducible refine Below.alloc ?_ ?_ _
      all_goals (simp; try omega)
  · have HW := hide hw
    clear hw
    go_wp2
    refine bodyPost_ret (v := .tuple #[.agg #[.int .u16 (h2 * 256 + h3), .int .u16 (h4 * 256 + h5), .int .u8 h1, .int .u16 (h6 * 256 + h7), .int .u8 h8, .bool (h0 == 17), .int .u16 0, .int .u16 0, .slice (some ⟨g, 0, none⟩) (n - 12) cv], .int .i64 0]) ?_ rfl ⟨?_, .inl ⟨by rw [HLn.out]; exact HW.out, _, rfl, ?_⟩⟩
    all_goals go_light
    · simp [results, Tryz.results32, go_sem, cr, hz5b]
    · repeat' first | with_reducible exact HW5.out | with_reducible refine Below.setCell ?_ ?_ _ | with_reducible refine Below.alloc ?_ ?_ _
      all_goals (simp; try omega)
    · rw [HLn.out]
      refine ownsRow_base (base := wx.heap.size + 1) ?_ (by omega)
      repeat' first | with_reducible exact HO.out | with_reducible refine ownsRow_setCell_below ?_ ?_ _ | with_reducible refine World.ownsRow.alloc ?_ _
      all_goals (simp; try omega)

end Go.Proofs.YtajphdppmdoalaaGreat
