import Derived.Test.YtajphdppmdoalaaGreatU1
namespace Go.Proofs.YtajphdppmdoalaaGreat
open Go.RowKit
set_option linter.unusedVariables false

theorem number_int (g o n cap at' : Nat) (a x y : Int) (ha : a = (at' : Int)) (w : World) (hx : 0 ≤ x ∧ x ≤ 255) (hy : 0 ≤ y ∧ y ≤ 255) (hat : at' + 1 < n) (hn : n ≤ 9223372036854775807)
    (c0 : w.cell? ⟨g, o + at', none⟩ = some (.int .u8 x)) (c1 : w.cell? ⟨g, o + (at' + 1), none⟩ = some (.int .u8 y)) :
    Calls Tryz.prog 65 #[.slice (some ⟨g, o, none⟩) n cap, .int .i64 a] w fun e w' => e = .returned (.int .i64 (x * 256 + y)) ∧ ∃ m, w' = w.drewN m := by
  subst ha
  exact number_any g o n cap at' x y w hx hy hat hn c0 c1

set_option maxRecDepth 100000 in
set_option maxHeartbeats 1600000 in
theorem sum_any (g o n cap : Nat) (h0 h1 h2 h3 h4 h5 h6 h7 h8 h9 : Int) (r : List Int) (w : World) (hd : Has w (some ⟨g, o, none⟩) ([h0, h1, h2, h3, h4, h5, h6, h7, h8, h9] ++ r)) (hn10 : 10 ≤ n) (hn : n ≤ 9223372036854775807) (b0 : 0 ≤ h0 ∧ h0 ≤ 255) (b1 : 0 ≤ h1 ∧ h1 ≤ 255) (b2 : 0 ≤ h2 ∧ h2 ≤ 255) (b3 : 0 ≤ h3 ∧ h3 ≤ 255) (b4 : 0 ≤ h4 ∧ h4 ≤ 255) (b5 : 0 ≤ h5 ∧ h5 ≤ 255) (b6 : 0 ≤ h6 ∧ h6 ≤ 255) (b7 : 0 ≤ h7 ∧ h7 ≤ 255) (b8 : 0 ≤ h8 ∧ h8 ≤ 255) (b9 : 0 ≤ h9 ∧ h9 ≤ 255) :
    Calls Tryz.prog 63 #[.slice (some ⟨g, o, none⟩) n cap] w fun e w' => e = .returned (.int .i64 (csum h0 h1 h2 h3 h4 h5 h6 h7 h8 h9)) ∧ ∃ m, w' = w.drewN m := by
  obtain ⟨g', o', he, _, hc⟩ := hd.2 (by simp)
  simp only [Option.some.injEq, Addr.mk.injEq] at he
  obtain ⟨rfl, rfl, _⟩ := he
  have e0 : Hid (∀ m, (w.drewN m).cell? ⟨g, o + 0, none⟩ = some (.int .u8 h0)) := fun m => by simpa using hc 0 (by simp)
  have e1 : Hid (∀ m, (w.drewN m).cell? ⟨g, o + 1, none⟩ = some (.int .u8 h1)) := fun m => by simpa using hc 1 (by simp)
  have e2 : Hid (∀ m, (w.drewN m).cell? ⟨g, o + 2, none⟩ = some (.int .u8 h2)) := fun m => by simpa using hc 2 (by simp)
  have e3 : Hid (∀ m, (w.drewN m).cell? ⟨g, o + 3, none⟩ = some (.int .u8 h3)) := fun m => by simpa using hc 3 (by simp)
  have e4 : Hid (∀ m, (w.drewN m).cell? ⟨g, o + 4, none⟩ = some (.int .u8 h4)) := fun m => by simpa using hc 4 (by simp)
  have e5 : Hid (∀ m, (w.drewN m).cell? ⟨g, o + 5, none⟩ = some (.int .u8 h5)) := fun m => by simpa using hc 5 (by simp)
  have e6 : Hid (∀ m, (w.drewN m).cell? ⟨g, o + 6, none⟩ = some (.int .u8 h6)) := fun m => by simpa using hc 6 (by simp)
  have e7 : Hid (∀ m, (w.drewN m).cell? ⟨g, o + 7, none⟩ = some (.int .u8 h7)) := fun m => by simpa using hc 7 (by simp)
  have e8 : Hid (∀ m, (w.drewN m).cell? ⟨g, o + 8, none⟩ = some (.int .u8 h8)) := fun m => by simpa using hc 8 (by simp)
  have e9 : Hid (∀ m, (w.drewN m).cell? ⟨g, o + 9, none⟩ = some (.int .u8 h9)) := fun m => by simpa using hc 9 (by simp)
  clear hc hd
  go_enter Tryz.func63, Tryz.ntmps63
  go_wp2_with fail
  go_loopw [3, 4, 5] (fun s i _ wr => ∃ k : Nat, k ≤ 5 ∧ i = .int .i64 (2 * (k : Int)) ∧ s = .int .i64 (tk h0 h1 h2 h3 h4 h5 h6 h7 h8 h9 k) ∧ ∃ m, wr = w.drewN m)
    (fun _ i _ _ => 10 - (intOf i).toNat)
  case atStart => exact ⟨0, by omega, rfl, rfl, 0, rfl⟩
  case round =>
    obtain ⟨k, hk, rfl, rfl, m, rfl⟩ := hrel
    by_cases hk5 : k = 5
    · subst hk5
      have hb : 0 ≤ tk h0 h1 h2 h3 h4 h5 h6 h7 h8 h9 5 ∧ tk h0 h1 h2 h3 h4 h5 h6 h7 h8 h9 5 ≤ 1000000 := by simp only [tk]; omega
      have HC : Hid (csum h0 h1 h2 h3 h4 h5 h6 h7 h8 h9 = 65535 - norm (tk h0 h1 h2 h3 h4 h5 h6 h7 h8 h9 5)) := rfl
      generalize tk h0 h1 h2 h3 h4 h5 h6 h7 h8 h9 5 = t at *
      by_cases ht : t = 0
      · subst ht
        go_wp2
        go_ret
        exact ⟨ret_int (by rw [HC.out]; rfl), _, rfl⟩
      · have ht' : (t == 0) = false := by simpa using ht
        go_wp2
        go_ret
        refine ⟨ret_int ?_, _, rfl⟩
        rw [HC.out, norm, if_neg ht]
    · rcases (show k = 0 ∨ k = 1 ∨ k = 2 ∨ k = 3 ∨ k = 4 by omega) with rfl | rfl | rfl | rfl | rfl
      · have hb : 0 ≤ tk h0 h1 h2 h3 h4 h5 h6 h7 h8 h9 0 ∧ tk h0 h1 h2 h3 h4 h5 h6 h7 h8 h9 0 ≤ 1000000 := by simp only [tk]; omega
        have HT : Hid (tk h0 h1 h2 h3 h4 h5 h6 h7 h8 h9 0 + (h0 * 256 + h1) = tk h0 h1 h2 h3 h4 h5 h6 h7 h8 h9 1) := by show _ = _; simp [tk]
        generalize tk h0 h1 h2 h3 h4 h5 h6 h7 h8 h9 0 = t at *
        go_wp2_with (first | (go_at_call 65; refine (number_int g o n cap 0 _ h0 h1 (by omega) _ b0 b1 (by omega) hn (e0.out _) (e1.out _)).mono ?_; rintro e w' ⟨rfl, m', rfl⟩))
        go_roundw
        case rel => exact ⟨1, by omega, by go_num, by rw [← HT.out], _, rfl⟩
        case measure => simp [intOf]
      · have hb : 0 ≤ tk h0 h1 h2 h3 h4 h5 h6 h7 h8 h9 1 ∧ tk h0 h1 h2 h3 h4 h5 h6 h7 h8 h9 1 ≤ 1000000 := by simp only [tk]; omega
        have HT : Hid (tk h0 h1 h2 h3 h4 h5 h6 h7 h8 h9 1 + (h2 * 256 + h3) = tk h0 h1 h2 h3 h4 h5 h6 h7 h8 h9 2) := by show _ = _; simp [tk]
        generalize tk h0 h1 h2 h3 h4 h5 h6 h7 h8 h9 1 = t at *
        go_wp2_with (first | (go_at_call 65; refine (number_int g o n cap 2 _ h2 h3 (by omega) _ b2 b3 (by omega) hn (e2.out _) (e3.out _)).mono ?_; rintro e w' ⟨rfl, m', rfl⟩))
        go_roundw
        case rel => exact ⟨2, by omega, by go_num, by rw [← HT.out], _, rfl⟩
        case measure => simp [intOf]
      · have hb : 0 ≤ tk h0 h1 h2 h3 h4 h5 h6 h7 h8 h9 2 ∧ tk h0 h1 h2 h3 h4 h5 h6 h7 h8 h9 2 ≤ 1000000 := by simp only [tk]; omega
        have HT : Hid (tk h0 h1 h2 h3 h4 h5 h6 h7 h8 h9 2 + (h4 * 256 + h5) = tk h0 h1 h2 h3 h4 h5 h6 h7 h8 h9 3) := by show _ = _; simp [tk]
        generalize tk h0 h1 h2 h3 h4 h5 h6 h7 h8 h9 2 = t at *
        go_wp2_with (first | (go_at_call 65; refine (number_int g o n cap 4 _ h4 h5 (by omega) _ b4 b5 (by omega) hn (e4.out _) (e5.out _)).mono ?_; rintro e w' ⟨rfl, m', rfl⟩))
        go_roundw
        case rel => exact ⟨3, by omega, by go_num, by rw [← HT.out], _, rfl⟩
        case measure => simp [intOf]
      · have hb : 0 ≤ tk h0 h1 h2 h3 h4 h5 h6 h7 h8 h9 3 ∧ tk h0 h1 h2 h3 h4 h5 h6 h7 h8 h9 3 ≤ 1000000 := by simp only [tk]; omega
        have HT : Hid (tk h0 h1 h2 h3 h4 h5 h6 h7 h8 h9 3 + (h6 * 256 + h7) = tk h0 h1 h2 h3 h4 h5 h6 h7 h8 h9 4) := by show _ = _; simp [tk]
        generalize tk h0 h1 h2 h3 h4 h5 h6 h7 h8 h9 3 = t at *
        go_wp2_with (first | (go_at_call 65; refine (number_int g o n cap 6 _ h6 h7 (by omega) _ b6 b7 (by omega) hn (e6.out _) (e7.out _)).mono ?_; rintro e w' ⟨rfl, m', rfl⟩))
        go_roundw
        case rel => exact ⟨4, by omega, by go_num, by rw [← HT.out], _, rfl⟩
        case measure => simp [intOf]
      · have hb : 0 ≤ tk h0 h1 h2 h3 h4 h5 h6 h7 h8 h9 4 ∧ tk h0 h1 h2 h3 h4 h5 h6 h7 h8 h9 4 ≤ 1000000 := by simp only [tk]; omega
        have HT : Hid (tk h0 h1 h2 h3 h4 h5 h6 h7 h8 h9 4 + (h8 * 256 + h9) = tk h0 h1 h2 h3 h4 h5 h6 h7 h8 h9 5) := by show _ = _; simp [tk]
        generalize tk h0 h1 h2 h3 h4 h5 h6 h7 h8 h9 4 = t at *
        go_wp2_with (first | (go_at_call 65; refine (number_int g o n cap 8 _ h8 h9 (by omega) _ b8 b9 (by omega) hn (e8.out _) (e9.out _)).mono ?_; rintro e w' ⟨rfl, m', rfl⟩))
        go_roundw
        case rel => exact ⟨5, by omega, by go_num, by rw [← HT.out], _, rfl⟩
        case measure => simp [intOf]

end Go.Proofs.YtajphdppmdoalaaGreat
