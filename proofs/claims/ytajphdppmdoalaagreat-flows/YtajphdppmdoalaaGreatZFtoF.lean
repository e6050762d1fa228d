import Derived.Test.YtajphdppmdoalaaGreatZJ4toE
namespace Go.Proofs.YtajphdppmdoalaaGreat
open Go.RowKit

theorem cell3 (w : World) (A : Array Value) (t : TypeId) (o1 o2 : Obj) (j : Nat) : (((w.alloc (.cells A t)).alloc o1).alloc o2).cell? ⟨w.heap.size, j, none⟩ = A[j]? :=
  box_cell (((Below.refl _ _).alloc (by simp) _).alloc (by simp) _) j

set_option maxRecDepth 100000 in
set_option maxHeartbeats 800000 in
theorem unpack_mark (b o n cap : Nat) (h0 h1 h2 h3 h4 h5 h6 h7 h8 h9 h10 h11 : Int) (r : List Int) (w : World) (hn : 12 + r.length = n) (hd : Has w (some ⟨b, o, none⟩) ([h0, h1, h2, h3, h4, h5, h6, h7, h8, h9, h10, h11] ++ r)) (q0 : (h0 != 16) = true) (q1 : (h0 != 17) = true) :
    Calls Tryz.prog 64 #[.slice (some ⟨b, o, none⟩) n cap] w fun e w' => e = .returned (.tuple #[.agg #[.int .u16 0, .int .u16 0, .int .u8 0, .int .u16 0, .int .u8 0, .bool false, .int .u16 0, .int .u16 0, .slice none 0 0], .int .i64 3]) ∧ Below w.heap.size w w' := by
  have hcp := copy_head b o n cap h0 h1 h2 h3 h4 h5 h6 h7 h8 h9 h10 h11 r w hn hd
  clear hd
  go_enter Tryz.func64, Tryz.ntmps64
  go_wp2
  refine bodyPost_ret (v := .tuple #[.agg #[.int .u16 0, .int .u16 0, .int .u8 0, .int .u16 0, .int .u8 0, .bool false, .int .u16 0, .int .u16 0, .slice none 0 0], .int .i64 3]) ?_ rfl ⟨rfl, ?_⟩
  all_goals go_light
  · simp [results, Tryz.results64, go_sem]
  · repeat' first | with_reducible exact Below.refl _ _ | with_reducible refine Below.setCell ?_ ?_ _ | with_reducible refine below_drewN ?_ _ | with_reducible refine Below.drew ?_ | with_reducible refine Below.alloc ?_ ?_ _
    all_goals (simp; try omega)

set_option maxRecDepth 100000 in
set_option maxHeartbeats 800000 in
theorem unpack_lenA_16 (b o n cap : Nat) (h1 h2 h3 h4 h5 h6 h7 h8 h9 h10 h11 : Int) (r : List Int) (w : World) (hn : 12 + r.length = n) (hcap : 12 < cap) (hm : cap ≤ maxLen) (hd : Has w (some ⟨b, o, none⟩) ([16, h1, h2, h3, h4, h5, h6, h7, h8, h9, h10, h11] ++ r)) (b9 : 0 ≤ h9 ∧ h9 ≤ 255) (q9 : ((r.length : Int) != h9) = true) :
    Calls Tryz.prog 64 #[.slice (some ⟨b, o, none⟩) n cap] w fun e w' => e = .returned (.tuple #[.agg #[.int .u16 0, .int .u16 0, .int .u8 0, .int .u16 0, .int .u8 0, .bool false, .int .u16 0, .int .u16 0, .slice none 0 0], .int .i64 4]) ∧ Below w.heap.size w w' := by
  unfold maxLen at hm
  have hcp := copy_head b o n cap 16 h1 h2 h3 h4 h5 h6 h7 h8 h9 h10 h11 r w hn hd
  clear hd
  have q4 : ((((n - 12 : Nat) : Int)) != h9) = true := by simp at q9 ⊢; omega
  clear q9
  go_enter Tryz.func64, Tryz.ntmps64
  go_wp2
  refine bodyPost_ret (v := .tuple #[.agg #[.int .u16 0, .int .u16 0, .int .u8 0, .int .u16 0, .int .u8 0, .bool false, .int .u16 0, .int .u16 0, .slice none 0 0], .int .i64 4]) ?_ rfl ⟨rfl, ?_⟩
  all_goals go_light
  · simp [results, Tryz.results64, go_sem]
  · repeat' first | with_reducible exact Below.refl _ _ | with_reducible refine Below.setCell ?_ ?_ _ | with_reducible refine below_drewN ?_ _ | with_reducible refine Below.drew ?_ | with_reducible refine Below.alloc ?_ ?_ _
    all_goals (simp; try omega)

set_option maxRecDepth 100000 in
set_option maxHeartbeats 800000 in
theorem unpack_lenAe_16 (b o : Nat) (h1 h2 h3 h4 h5 h6 h7 h8 h9 h10 h11 : Int) (w : World) (hd : Has w (some ⟨b, o, none⟩) ([16, h1, h2, h3, h4, h5, h6, h7, h8, h9, h10, h11] ++ [])) (b9 : 0 ≤ h9 ∧ h9 ≤ 255) (q9 : ((0 : Int) != h9) = true) :
    Calls Tryz.prog 64 #[.slice (some ⟨b, o, none⟩) 12 12] w fun e w' => e = .returned (.tuple #[.agg #[.int .u16 0, .int .u16 0, .int .u8 0, .int .u16 0, .int .u8 0, .bool false, .int .u16 0, .int .u16 0, .slice none 0 0], .int .i64 4]) ∧ Below w.heap.size w w' := by
  have hcp := copy_head b o 12 12 16 h1 h2 h3 h4 h5 h6 h7 h8 h9 h10 h11 [] w (by simp) hd
  clear hd
  go_enter Tryz.func64, Tryz.ntmps64
  go_wp2
  refine bodyPost_ret (v := .tuple #[.agg #[.int .u16 0, .int .u16 0, .int .u8 0, .int .u16 0, .int .u8 0, .bool false, .int .u16 0, .int .u16 0, .slice none 0 0], .int .i64 4]) ?_ rfl ⟨rfl, ?_⟩
  all_goals go_light
  · simp [results, Tryz.results64, go_sem]
  · repeat' first | with_reducible exact Below.refl _ _ | with_reducible refine Below.setCell ?_ ?_ _ | with_reducible refine below_drewN ?_ _ | with_reducible refine Below.drew ?_ | with_reducible refine Below.alloc ?_ ?_ _
    all_goals (simp; try omega)

set_option maxRecDepth 100000 in
set_option maxHeartbeats 800000 in
theorem unpack_lenB_16 (b o n cap : Nat) (h1 h2 h3 h4 h5 h6 h7 h9 h10 h11 : Int) (r : List Int) (w : World) (hn : 12 + r.length = n) (hcap : 12 < cap) (hm : cap ≤ maxLen) (hd : Has w (some ⟨b, o, none⟩) ([16, h1, h2, h3, h4, h5, h6, h7, 0, h9, h10, h11] ++ r)) (b9 : 0 ≤ h9 ∧ h9 ≤ 255) (q9 : (r.length : Int) = h9) (q5 : r.length < 4) :
    Calls Tryz.prog 64 #[.slice (some ⟨b, o, none⟩) n cap] w fun e w' => e = .returned (.tuple #[.agg #[.int .u16 0, .int .u16 0, .int .u8 0, .int .u16 0, .int .u8 0, .bool false, .int .u16 0, .int .u16 0, .slice none 0 0], .int .i64 4]) ∧ Below w.heap.size w w' := by
  unfold maxLen at hm
  have hcp := copy_head b o n cap 16 h1 h2 h3 h4 h5 h6 h7 0 h9 h10 h11 r w hn hd
  clear hd
  have q4 : ((((n - 12 : Nat) : Int)) != h9) = false := by simp; omega
  have q6 : ((n - 12 : Nat) : Int) < 4 := by omega
  clear q9 q5
  go_enter Tryz.func64, Tryz.ntmps64
  go_wp2
  refine bodyPost_ret (v := .tuple #[.agg #[.int .u16 0, .int .u16 0, .int .u8 0, .int .u16 0, .int .u8 0, .bool false, .int .u16 0, .int .u16 0, .slice none 0 0], .int .i64 4]) ?_ rfl ⟨rfl, ?_⟩
  all_goals go_light
  · simp [results, Tryz.results64, go_sem]
  · repeat' first | with_reducible exact Below.refl _ _ | with_reducible refine Below.setCell ?_ ?_ _ | with_reducible refine below_drewN ?_ _ | with_reducible refine Below.drew ?_ | with_reducible refine Below.alloc ?_ ?_ _
    all_goals (simp; try omega)

set_option maxRecDepth 100000 in
set_option maxHeartbeats 800000 in
theorem unpack_lenBe_16 (b o : Nat) (h1 h2 h3 h4 h5 h6 h7 h9 h10 h11 : Int) (w : World) (hd : Has w (some ⟨b, o, none⟩) ([16, h1, h2, h3, h4, h5, h6, h7, 0, h9, h10, h11] ++ [])) (b9 : 0 ≤ h9 ∧ h9 ≤ 255) (q9 : h9 = 0) :
    Calls Tryz.prog 64 #[.slice (some ⟨b, o, none⟩) 12 12] w fun e w' => e = .returned (.tuple #[.agg #[.int .u16 0, .int .u16 0, .int .u8 0, .int .u16 0, .int .u8 0, .bool false, .int .u16 0, .int .u16 0, .slice none 0 0], .int .i64 4]) ∧ Below w.heap.size w w' := by
  have hcp := copy_head b o 12 12 16 h1 h2 h3 h4 h5 h6 h7 0 h9 h10 h11 [] w (by simp) hd
  clear hd
  subst q9
  go_enter Tryz.func64, Tryz.ntmps64
  go_wp2
  refine bodyPost_ret (v := .tuple #[.agg #[.int .u16 0, .int .u16 0, .int .u8 0, .int .u16 0, .int .u8 0, .bool false, .int .u16 0, .int .u16 0, .slice none 0 0], .int .i64 4]) ?_ rfl ⟨rfl, ?_⟩
  all_goals go_light
  · simp [results, Tryz.results64, go_sem]
  · repeat' first | with_reducible exact Below.refl _ _ | with_reducible refine Below.setCell ?_ ?_ _ | with_reducible refine below_drewN ?_ _ | with_reducible refine Below.drew ?_ | with_reducible refine Below.alloc ?_ ?_ _
    all_goals (simp; try omega)

set_option maxRecDepth 100000 in
set_option maxHeartbeats 800000 in
theorem unpack_sum_16p (b o n cap : Nat) (h1 h2 h3 h4 h5 h6 h7 h9 h10 h11 : Int) (r : List Int) (w : World) (hn : 12 + r.length = n) (hcap : 12 < cap) (hm : cap ≤ maxLen) (hd : Has w (some ⟨b, o, none⟩) ([16, h1, h2, h3, h4, h5, h6, h7, 0, h9, h10, h11] ++ r)) (b1 : 0 ≤ h1 ∧ h1 ≤ 255) (b2 : 0 ≤ h2 ∧ h2 ≤ 255) (b3 : 0 ≤ h3 ∧ h3 ≤ 255) (b4 : 0 ≤ h4 ∧ h4 ≤ 255) (b5 : 0 ≤ h5 ∧ h5 ≤ 255) (b6 : 0 ≤ h6 ∧ h6 ≤ 255) (b7 : 0 ≤ h7 ∧ h7 ≤ 255) (b9 : 0 ≤ h9 ∧ h9 ≤ 255) (b10 : 0 ≤ h10 ∧ h10 ≤ 255) (b11 : 0 ≤ h11 ∧ h11 ≤ 255) (q9 : (r.length : Int) = h9) (q5 : 4 ≤ r.length) (qs : ((h10 * 256 + h11) != csum 16 h1 h2 h3 h4 h5 h6 h7 0 h9) = true) :
    Calls Tryz.prog 64 #[.slice (some ⟨b, o, none⟩) n cap] w fun e w' => e = .returned (.tuple #[.agg #[.int .u16 0, .int .u16 0, .int .u8 0, .int .u16 0, .int .u8 0, .bool false, .int .u16 0, .int .u16 0, .slice none 0 0], .int .i64 5]) ∧ Below w.heap.size w w' := by
  unfold maxLen at hm
  have hcp := copy_head b o n cap 16 h1 h2 h3 h4 h5 h6 h7 0 h9 h10 h11 r w hn hd
  clear hd
  have q4 : ((((n - 12 : Nat) : Int)) != h9) = false := by simp; omega
  have q6 : (4 : Int) ≤ ((n - 12 : Nat) : Int) := by omega
  clear q9 q5
  go_enter Tryz.func64, Tryz.ntmps64
  go_wp2_with fail
  refine (checksum_any 16 h1 h2 h3 h4 h5 h6 h7 0 h9 h10 h11 _ (by omega) (by omega) (by omega) (by omega) (by omega) (by omega) (by omega) (by omega) (by omega) (by omega)).mono ?_
  rintro e w1 ⟨rfl, m, rfl⟩
  go_wp2_with (go_at_call 89; refine (word_any _ _ _ (by omega) (by omega) (by omega) (by omega)).mono ?_; rintro e w' ⟨rfl, rfl⟩)
  refine bodyPost_ret (v := .tuple #[.agg #[.int .u16 0, .int .u16 0, .int .u8 0, .int .u16 0, .int .u8 0, .bool false, .int .u16 0, .int .u16 0, .slice none 0 0], .int .i64 5]) ?_ rfl ⟨rfl, ?_⟩
  all_goals go_light
  · simp [results, Tryz.results64, go_sem, cell3]
  · repeat' first | with_reducible exact Below.refl _ _ | with_reducible refine Below.setCell ?_ ?_ _ | with_reducible refine below_drewN ?_ _ | with_reducible refine Below.drew ?_ | with_reducible refine Below.alloc ?_ ?_ _
    all_goals (simp; try omega)

set_option maxRecDepth 100000 in
set_option maxHeartbeats 800000 in
theorem unpack_sum_16q (b o n cap : Nat) (h1 h2 h3 h4 h5 h6 h7 h8 h9 h10 h11 : Int) (r : List Int) (w : World) (hn : 12 + r.length = n) (hcap : 12 < cap) (hm : cap ≤ maxLen) (hd : Has w (some ⟨b, o, none⟩) ([16, h1, h2, h3, h4, h5, h6, h7, h8, h9, h10, h11] ++ r)) (b1 : 0 ≤ h1 ∧ h1 ≤ 255) (b2 : 0 ≤ h2 ∧ h2 ≤ 255) (b3 : 0 ≤ h3 ∧ h3 ≤ 255) (b4 : 0 ≤ h4 ∧ h4 ≤ 255) (b5 : 0 ≤ h5 ∧ h5 ≤ 255) (b6 : 0 ≤ h6 ∧ h6 ≤ 255) (b7 : 0 ≤ h7 ∧ h7 ≤ 255) (b8 : 0 ≤ h8 ∧ h8 ≤ 255) (b9 : 0 ≤ h9 ∧ h9 ≤ 255) (b10 : 0 ≤ h10 ∧ h10 ≤ 255) (b11 : 0 ≤ h11 ∧ h11 ≤ 255) (q8 : (h8 == 0) = false) (q9 : (r.length : Int) = h9) (qs : ((h10 * 256 + h11) != csum 16 h1 h2 h3 h4 h5 h6 h7 h8 h9) = true) :
    Calls Tryz.prog 64 #[.slice (some ⟨b, o, none⟩) n cap] w fun e w' => e = .returned (.tuple #[.agg #[.int .u16 0, .int .u16 0, .int .u8 0, .int .u16 0, .int .u8 0, .bool false, .int .u16 0, .int .u16 0, .slice none 0 0], .int .i64 5]) ∧ Below w.heap.size w w' := by
  unfold maxLen at hm
  have hcp := copy_head b o n cap 16 h1 h2 h3 h4 h5 h6 h7 h8 h9 h10 h11 r w hn hd
  clear hd
  have q4 : ((((n - 12 : Nat) : Int)) != h9) = false := by simp; omega
  clear q9
  go_enter Tryz.func64, Tryz.ntmps64
  go_wp2_with fail
  refine (checksum_any 16 h1 h2 h3 h4 h5 h6 h7 h8 h9 h10 h11 _ (by omega) (by omega) (by omega) (by omega) (by omega) (by omega) (by omega) (by omega) (by omega) (by omega)).mono ?_
  rintro e w1 ⟨rfl, m, rfl⟩
  go_wp2_with (go_at_call 89; refine (word_any _ _ _ (by omega) (by omega) (by omega) (by omega)).mono ?_; rintro e w' ⟨rfl, rfl⟩)
  refine bodyPost_ret (v := .tuple #[.agg #[.int .u16 0, .int .u16 0, .int .u8 0, .int .u16 0, .int .u8 0, .bool false, .int .u16 0, .int .u16 0, .slice none 0 0], .int .i64 5]) ?_ rfl ⟨rfl, ?_⟩
  all_goals go_light
  · simp [results, Tryz.results64, go_sem, cell3]
  · repeat' first | with_reducible exact Below.refl _ _ | with_reducible refine Below.setCell ?_ ?_ _ | with_reducible refine below_drewN ?_ _ | with_reducible refine Below.drew ?_ | with_reducible refine Below.alloc ?_ ?_ _
    all_goals (simp; try omega)

set_option maxRecDepth 100000 in
set_option maxHeartbeats 800000 in
theorem unpack_sume_16q (b o : Nat) (h1 h2 h3 h4 h5 h6 h7 h8 h9 h10 h11 : Int) (w : World) (hd : Has w (some ⟨b, o, none⟩) ([16, h1, h2, h3, h4, h5, h6, h7, h8, h9, h10, h11] ++ [])) (b1 : 0 ≤ h1 ∧ h1 ≤ 255) (b2 : 0 ≤ h2 ∧ h2 ≤ 255) (b3 : 0 ≤ h3 ∧ h3 ≤ 255) (b4 : 0 ≤ h4 ∧ h4 ≤ 255) (b5 : 0 ≤ h5 ∧ h5 ≤ 255) (b6 : 0 ≤ h6 ∧ h6 ≤ 255) (b7 : 0 ≤ h7 ∧ h7 ≤ 255) (b8 : 0 ≤ h8 ∧ h8 ≤ 255) (b9 : 0 ≤ h9 ∧ h9 ≤ 255) (b10 : 0 ≤ h10 ∧ h10 ≤ 255) (b11 : 0 ≤ h11 ∧ h11 ≤ 255) (q8 : (h8 == 0) = false) (q9 : h9 = 0) (qs : ((h10 * 256 + h11) != csum 16 h1 h2 h3 h4 h5 h6 h7 h8 h9) = true) :
    Calls Tryz.prog 64 #[.slice (some ⟨b, o, none⟩) 12 12] w fun e w' => e = .returned (.tuple #[.agg #[.int .u16 0, .int .u16 0, .int .u8 0, .int .u16 0, .int .u8 0, .bool false, .int .u16 0, .int .u16 0, .slice none 0 0], .int .i64 5]) ∧ Below w.heap.size w w' := by
  have hcp := copy_head b o 12 12 16 h1 h2 h3 h4 h5 h6 h7 h8 h9 h10 h11 [] w (by simp) hd
  clear hd
  subst q9
  go_enter Tryz.func64, Tryz.ntmps64
  go_wp2_with fail
  refine (checksum_any 16 h1 h2 h3 h4 h5 h6 h7 h8 0 h10 h11 _ (by omega) (by omega) (by omega) (by omega) (by omega) (by omega) (by omega) (by omega) (by omega) (by omega)).mono ?_
  rintro e w1 ⟨rfl, m, rfl⟩
  go_wp2_with (go_at_call 89; refine (word_any _ _ _ (by omega) (by omega) (by omega) (by omega)).mono ?_; rintro e w' ⟨rfl, rfl⟩)
  refine bodyPost_ret (v := .tuple #[.agg #[.int .u16 0, .int .u16 0, .int .u8 0, .int .u16 0, .int .u8 0, .bool false, .int .u16 0, .int .u16 0, .slice none 0 0], .int .i64 5]) ?_ rfl ⟨rfl, ?_⟩
  all_goals go_light
  · simp [results, Tryz.results64, go_sem, cell3]
  · repeat' first | with_reducible exact Below.refl _ _ | with_reducible refine Below.setCell ?_ ?_ _ | with_reducible refine below_drewN ?_ _ | with_reducible refine Below.drew ?_ | with_reducible refine Below.alloc ?_ ?_ _
    all_goals (simp; try omega)

set_option maxRecDepth 100000 in
set_option maxHeartbeats 800000 in
theorem unpack_lenA_17 (b o n cap : Nat) (h1 h2 h3 h4 h5 h6 h7 h8 h9 h10 h11 : Int) (r : List Int) (w : World) (hn : 12 + r.length = n) (hcap : 12 < cap) (hm : cap ≤ maxLen) (hd : Has w (some ⟨b, o, none⟩) ([17, h1, h2, h3, h4, h5, h6, h7, h8, h9, h10, h11] ++ r)) (b9 : 0 ≤ h9 ∧ h9 ≤ 255) (q9 : ((r.length : Int) != h9) = true) :
    Calls Tryz.prog 64 #[.slice (some ⟨b, o, none⟩) n cap] w fun e w' => e = .returned (.tuple #[.agg #[.int .u16 0, .int .u16 0, .int .u8 0, .int .u16 0, .int .u8 0, .bool false, .int .u16 0, .int .u16 0, .slice none 0 0], .int .i64 4]) ∧ Below w.heap.size w w' := by
  unfold maxLen at hm
  have hcp := copy_head b o n cap 17 h1 h2 h3 h4 h5 h6 h7 h8 h9 h10 h11 r w hn hd
  clear hd
  have q4 : ((((n - 12 : Nat) : Int)) != h9) = true := by simp at q9 ⊢; omega
  clear q9
  go_enter Tryz.func64, Tryz.ntmps64
  go_wp2
  refine bodyPost_ret (v := .tuple #[.agg #[.int .u16 0, .int .u16 0, .int .u8 0, .int .u16 0, .int .u8 0, .bool false, .int .u16 0, .int .u16 0, .slice none 0 0], .int .i64 4]) ?_ rfl ⟨rfl, ?_⟩
  all_goals go_light
  · simp [results, Tryz.results64, go_sem]
  · repeat' first | with_reducible exact Below.refl _ _ | with_reducible refine Below.setCell ?_ ?_ _ | with_reducible refine below_drewN ?_ _ | with_reducible refine Below.drew ?_ | with_reducible refine Below.alloc ?_ ?_ _
    all_goals (simp; try omega)

set_option maxRecDepth 100000 in
set_option maxHeartbeats 800000 in
theorem unpack_lenAe_17 (b o : Nat) (h1 h2 h3 h4 h5 h6 h7 h8 h9 h10 h11 : Int) (w : World) (hd : Has w (some ⟨b, o, none⟩) ([17, h1, h2, h3, h4, h5, h6, h7, h8, h9, h10, h11] ++ [])) (b9 : 0 ≤ h9 ∧ h9 ≤ 255) (q9 : ((0 : Int) != h9) = true) :
    Calls Tryz.prog 64 #[.slice (some ⟨b, o, none⟩) 12 12] w fun e w' => e = .returned (.tuple #[.agg #[.int .u16 0, .int .u16 0, .int .u8 0, .int .u16 0, .int .u8 0, .bool false, .int .u16 0, .int .u16 0, .slice none 0 0], .int .i64 4]) ∧ Below w.heap.size w w' := by
  have hcp := copy_head b o 12 12 17 h1 h2 h3 h4 h5 h6 h7 h8 h9 h10 h11 [] w (by simp) hd
  clear hd
  go_enter Tryz.func64, Tryz.ntmps64
  go_wp2
  refine bodyPost_ret (v := .tuple #[.agg #[.int .u16 0, .int .u16 0, .int .u8 0, .int .u16 0, .int .u8 0, .bool false, .int .u16 0, .int .u16 0, .slice none 0 0], .int .i64 4]) ?_ rfl ⟨rfl, ?_⟩
  all_goals go_light
  · simp [results, Tryz.results64, go_sem]
  · repeat' first | with_reducible exact Below.refl _ _ | with_reducible refine Below.setCell ?_ ?_ _ | with_reducible refine below_drewN ?_ _ | with_reducible refine Below.drew ?_ | with_reducible refine Below.alloc ?_ ?_ _
    all_goals (simp; try omega)

set_option maxRecDepth 100000 in
set_option maxHeartbeats 800000 in
theorem unpack_lenB_17 (b o n cap : Nat) (h1 h2 h3 h4 h5 h6 h7 h9 h10 h11 : Int) (r : List Int) (w : World) (hn : 12 + r.length = n) (hcap : 12 < cap) (hm : cap ≤ maxLen) (hd : Has w (some ⟨b, o, none⟩) ([17, h1, h2, h3, h4, h5, h6, h7, 0, h9, h10, h11] ++ r)) (b9 : 0 ≤ h9 ∧ h9 ≤ 255) (q9 : (r.length : Int) = h9) (q5 : r.length < 4) :
    Calls Tryz.prog 64 #[.slice (some ⟨b, o, none⟩) n cap] w fun e w' => e = .returned (.tuple #[.agg #[.int .u16 0, .int .u16 0, .int .u8 0, .int .u16 0, .int .u8 0, .bool false, .int .u16 0, .int .u16 0, .slice none 0 0], .int .i64 4]) ∧ Below w.heap.size w w' := by
  unfold maxLen at hm
  have hcp := copy_head b o n cap 17 h1 h2 h3 h4 h5 h6 h7 0 h9 h10 h11 r w hn hd
  clear hd
  have q4 : ((((n - 12 : Nat) : Int)) != h9) = false := by simp; omega
  have q6 : ((n - 12 : Nat) : Int) < 4 := by omega
  clear q9 q5
  go_enter Tryz.func64, Tryz.ntmps64
  go_wp2
  refine bodyPost_ret (v := .tuple #[.agg #[.int .u16 0, .int .u16 0, .int .u8 0, .int .u16 0, .int .u8 0, .bool false, .int .u16 0, .int .u16 0, .slice none 0 0], .int .i64 4]) ?_ rfl ⟨rfl, ?_⟩
  all_goals go_light
  · simp [results, Tryz.results64, go_sem]
  · repeat' first | with_reducible exact Below.refl _ _ | with_reducible refine Below.setCell ?_ ?_ _ | with_reducible refine below_drewN ?_ _ | with_reducible refine Below.drew ?_ | with_reducible refine Below.alloc ?_ ?_ _
    all_goals (simp; try omega)

set_option maxRecDepth 100000 in
set_option maxHeartbeats 800000 in
theorem unpack_lenBe_17 (b o : Nat) (h1 h2 h3 h4 h5 h6 h7 h9 h10 h11 : Int) (w : World) (hd : Has w (some ⟨b, o, none⟩) ([17, h1, h2, h3, h4, h5, h6, h7, 0, h9, h10, h11] ++ [])) (b9 : 0 ≤ h9 ∧ h9 ≤ 255) (q9 : h9 = 0) :
    Calls Tryz.prog 64 #[.slice (some ⟨b, o, none⟩) 12 12] w fun e w' => e = .returned (.tuple #[.agg #[.int .u16 0, .int .u16 0, .int .u8 0, .int .u16 0, .int .u8 0, .bool false, .int .u16 0, .int .u16 0, .slice none 0 0], .int .i64 4]) ∧ Below w.heap.size w w' := by
  have hcp := copy_head b o 12 12 17 h1 h2 h3 h4 h5 h6 h7 0 h9 h10 h11 [] w (by simp) hd
  clear hd
  subst q9
  go_enter Tryz.func64, Tryz.ntmps64
  go_wp2
  refine bodyPost_ret (v := .tuple #[.agg #[.int .u16 0, .int .u16 0, .int .u8 0, .int .u16 0, .int .u8 0, .bool false, .int .u16 0, .int .u16 0, .slice none 0 0], .int .i64 4]) ?_ rfl ⟨rfl, ?_⟩
  all_goals go_light
  · simp [results, Tryz.results64, go_sem]
  · repeat' first | with_reducible exact Below.refl _ _ | with_reducible refine Below.setCell ?_ ?_ _ | with_reducible refine below_drewN ?_ _ | with_reducible refine Below.drew ?_ | with_reducible refine Below.alloc ?_ ?_ _
    all_goals (simp; try omega)

set_option maxRecDepth 100000 in
set_option maxHeartbeats 800000 in
theorem unpack_sum_17p (b o n cap : Nat) (h1 h2 h3 h4 h5 h6 h7 h9 h10 h11 : Int) (r : List Int) (w : World) (hn : 12 + r.length = n) (hcap : 12 < cap) (hm : cap ≤ maxLen) (hd : Has w (some ⟨b, o, none⟩) ([17, h1, h2, h3, h4, h5, h6, h7, 0, h9, h10, h11] ++ r)) (b1 : 0 ≤ h1 ∧ h1 ≤ 255) (b2 : 0 ≤ h2 ∧ h2 ≤ 255) (b3 : 0 ≤ h3 ∧ h3 ≤ 255) (b4 : 0 ≤ h4 ∧ h4 ≤ 255) (b5 : 0 ≤ h5 ∧ h5 ≤ 255) (b6 : 0 ≤ h6 ∧ h6 ≤ 255) (b7 : 0 ≤ h7 ∧ h7 ≤ 255) (b9 : 0 ≤ h9 ∧ h9 ≤ 255) (b10 : 0 ≤ h10 ∧ h10 ≤ 255) (b11 : 0 ≤ h11 ∧ h11 ≤ 255) (q9 : (r.length : Int) = h9) (q5 : 4 ≤ r.length) (qs : ((h10 * 256 + h11) != csum 17 h1 h2 h3 h4 h5 h6 h7 0 h9) = true) :
    Calls Tryz.prog 64 #[.slice (some ⟨b, o, none⟩) n cap] w fun e w' => e = .returned (.tuple #[.agg #[.int .u16 0, .int .u16 0, .int .u8 0, .int .u16 0, .int .u8 0, .bool false, .int .u16 0, .int .u16 0, .slice none 0 0], .int .i64 5]) ∧ Below w.heap.size w w' := by
  unfold maxLen at hm
  have hcp := copy_head b o n cap 17 h1 h2 h3 h4 h5 h6 h7 0 h9 h10 h11 r w hn hd
  clear hd
  have q4 : ((((n - 12 : Nat) : Int)) != h9) = false := by simp; omega
  have q6 : (4 : Int) ≤ ((n - 12 : Nat) : Int) := by omega
  clear q9 q5
  go_enter Tryz.func64, Tryz.ntmps64
  go_wp2_with fail
  refine (checksum_any 17 h1 h2 h3 h4 h5 h6 h7 0 h9 h10 h11 _ (by omega) (by omega) (by omega) (by omega) (by omega) (by omega) (by omega) (by omega) (by omega) (by omega)).mono ?_
  rintro e w1 ⟨rfl, m, rfl⟩
  go_wp2_with (go_at_call 89; refine (word_any _ _ _ (by omega) (by omega) (by omega) (by omega)).mono ?_; rintro e w' ⟨rfl, rfl⟩)
  refine bodyPost_ret (v := .tuple #[.agg #[.int .u16 0, .int .u16 0, .int .u8 0, .int .u16 0, .int .u8 0, .bool false, .int .u16 0, .int .u16 0, .slice none 0 0], .int .i64 5]) ?_ rfl ⟨rfl, ?_⟩
  all_goals go_light
  · simp [results, Tryz.results64, go_sem, cell3]
  · repeat' first | with_reducible exact Below.refl _ _ | with_reducible refine Below.setCell ?_ ?_ _ | with_reducible refine below_drewN ?_ _ | with_reducible refine Below.drew ?_ | with_reducible refine Below.alloc ?_ ?_ _
    all_goals (simp; try omega)

set_option maxRecDepth 100000 in
set_option maxHeartbeats 800000 in
theorem unpack_sum_17q (b o n cap : Nat) (h1 h2 h3 h4 h5 h6 h7 h8 h9 h10 h11 : Int) (r : List Int) (w : World) (hn : 12 + r.length = n) (hcap : 12 < cap) (hm : cap ≤ maxLen) (hd : Has w (some ⟨b, o, none⟩) ([17, h1, h2, h3, h4, h5, h6, h7, h8, h9, h10, h11] ++ r)) (b1 : 0 ≤ h1 ∧ h1 ≤ 255) (b2 : 0 ≤ h2 ∧ h2 ≤ 255) (b3 : 0 ≤ h3 ∧ h3 ≤ 255) (b4 : 0 ≤ h4 ∧ h4 ≤ 255) (b5 : 0 ≤ h5 ∧ h5 ≤ 255) (b6 : 0 ≤ h6 ∧ h6 ≤ 255) (b7 : 0 ≤ h7 ∧ h7 ≤ 255) (b8 : 0 ≤ h8 ∧ h8 ≤ 255) (b9 : 0 ≤ h9 ∧ h9 ≤ 255) (b10 : 0 ≤ h10 ∧ h10 ≤ 255) (b11 : 0 ≤ h11 ∧ h11 ≤ 255) (q8 : (h8 == 0) = false) (q9 : (r.length : Int) = h9) (qs : ((h10 * 256 + h11) != csum 17 h1 h2 h3 h4 h5 h6 h7 h8 h9) = true) :
    Calls Tryz.prog 64 #[.slice (some ⟨b, o, none⟩) n cap] w fun e w' => e = .returned (.tuple #[.agg #[.int .u16 0, .int .u16 0, .int .u8 0, .int .u16 0, .int .u8 0, .bool false, .int .u16 0, .int .u16 0, .slice none 0 0], .int .i64 5]) ∧ Below w.heap.size w w' := by
  unfold maxLen at hm
  have hcp := copy_head b o n cap 17 h1 h2 h3 h4 h5 h6 h7 h8 h9 h10 h11 r w hn hd
  clear hd
  have q4 : ((((n - 12 : Nat) : Int)) != h9) = false := by simp; omega
  clear q9
  go_enter Tryz.func64, Tryz.ntmps64
  go_wp2_with fail
  refine (checksum_any 17 h1 h2 h3 h4 h5 h6 h7 h8 h9 h10 h11 _ (by omega) (by omega) (by omega) (by omega) (by omega) (by omega) (by omega) (by omega) (by omega) (by omega)).mono ?_
  rintro e w1 ⟨rfl, m, rfl⟩
  go_wp2_with (go_at_call 89; refine (word_any _ _ _ (by omega) (by omega) (by omega) (by omega)).mono ?_; rintro e w' ⟨rfl, rfl⟩)
  refine bodyPost_ret (v := .tuple #[.agg #[.int .u16 0, .int .u16 0, .int .u8 0, .int .u16 0, .int .u8 0, .bool false, .int .u16 0, .int .u16 0, .slice none 0 0], .int .i64 5]) ?_ rfl ⟨rfl, ?_⟩
  all_goals go_light
  · simp [results, Tryz.results64, go_sem, cell3]
  · repeat' first | with_reducible exact Below.refl _ _ | with_reducible refine Below.setCell ?_ ?_ _ | with_reducible refine below_drewN ?_ _ | with_reducible refine Below.drew ?_ | with_reducible refine Below.alloc ?_ ?_ _
    all_goals (simp; try omega)

set_option maxRecDepth 100000 in
set_option maxHeartbeats 800000 in
theorem unpack_sume_17q (b o : Nat) (h1 h2 h3 h4 h5 h6 h7 h8 h9 h10 h11 : Int) (w : World) (hd : Has w (some ⟨b, o, none⟩) ([17, h1, h2, h3, h4, h5, h6, h7, h8, h9, h10, h11] ++ [])) (b1 : 0 ≤ h1 ∧ h1 ≤ 255) (b2 : 0 ≤ h2 ∧ h2 ≤ 255) (b3 : 0 ≤ h3 ∧ h3 ≤ 255) (b4 : 0 ≤ h4 ∧ h4 ≤ 255) (b5 : 0 ≤ h5 ∧ h5 ≤ 255) (b6 : 0 ≤ h6 ∧ h6 ≤ 255) (b7 : 0 ≤ h7 ∧ h7 ≤ 255) (b8 : 0 ≤ h8 ∧ h8 ≤ 255) (b9 : 0 ≤ h9 ∧ h9 ≤ 255) (b10 : 0 ≤ h10 ∧ h10 ≤ 255) (b11 : 0 ≤ h11 ∧ h11 ≤ 255) (q8 : (h8 == 0) = false) (q9 : h9 = 0) (qs : ((h10 * 256 + h11) != csum 17 h1 h2 h3 h4 h5 h6 h7 h8 h9) = true) :
    Calls Tryz.prog 64 #[.slice (some ⟨b, o, none⟩) 12 12] w fun e w' => e = .returned (.tuple #[.agg #[.int .u16 0, .int .u16 0, .int .u8 0, .int .u16 0, .int .u8 0, .bool false, .int .u16 0, .int .u16 0, .slice none 0 0], .int .i64 5]) ∧ Below w.heap.size w w' := by
  have hcp := copy_head b o 12 12 17 h1 h2 h3 h4 h5 h6 h7 h8 h9 h10 h11 [] w (by simp) hd
  clear hd
  subst q9
  go_enter Tryz.func64, Tryz.ntmps64
  go_wp2_with fail
  refine (checksum_any 17 h1 h2 h3 h4 h5 h6 h7 h8 0 h10 h11 _ (by omega) (by omega) (by omega) (by omega) (by omega) (by omega) (by omega) (by omega) (by omega) (by omega)).mono ?_
  rintro e w1 ⟨rfl, m, rfl⟩
  go_wp2_with (go_at_call 89; refine (word_any _ _ _ (by omega) (by omega) (by omega) (by omega)).mono ?_; rintro e w' ⟨rfl, rfl⟩)
  refine bodyPost_ret (v := .tuple #[.agg #[.int .u16 0, .int .u16 0, .int .u8 0, .int .u16 0, .int .u8 0, .bool false, .int .u16 0, .int .u16 0, .slice none 0 0], .int .i64 5]) ?_ rfl ⟨rfl, ?_⟩
  all_goals go_light
  · simp [results, Tryz.results64, go_sem, cell3]
  · repeat' first | with_reducible exact Below.refl _ _ | with_reducible refine Below.setCell ?_ ?_ _ | with_reducible refine below_drewN ?_ _ | with_reducible refine Below.drew ?_ | with_reducible refine Below.alloc ?_ ?_ _
    all_goals (simp; try omega)

end Go.Proofs.YtajphdppmdoalaaGreat
