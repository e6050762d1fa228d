import Derived.Test.YtajphdppmdoalaaGreatZJ7toU1
import Derived.Test.YtajphdppmdoalaaGreatZJ1toLM
namespace Go.Proofs.YtajphdppmdoalaaGreat
open Go.RowKit
set_option linter.unusedVariables false

theorem number_int (g o n cap at' : Nat) (a x y : Int) (ha : a = (at' : Int)) (w : World) (hx : 0 ≤ x ∧ x ≤ 255) (hy : 0 ≤ y ∧ y ≤ 255) (hat : at' + 1 < n) (hn : n ≤ 9223372036854775807)
    (c0 : w.cell? ⟨g, o + at', none⟩ = some (.int .u8 x)) (c1 : w.cell? ⟨g, o + (at' + 1), none⟩ = some (.int .u8 y)) :
    Calls Tryz.prog 65 #[.slice (some ⟨g, o, none⟩) n cap, .int .i64 a] w fun e w' => e = .returned (.int .i64 (x * 256 + y)) ∧ ∃ m, w' = w.drewN m := by
  subst ha
  exact number_any g o n cap at' x y w hx hy hat hn c0 c1

set_option maxRecDepth 100000 in
set_option maxHeartbeats 1600000 in
theorem sum_any (g o n cap : Nat) (h0 h1 h2 h3 h4 h5 h6 h7 h8 h9 : Int) (r : List Int) (w : World) (hd : Has w (some ⟨g, o, none⟩) ([h0, h1, h2, h3, h4, h5, h6, h7, h8, h9] ++ r)) (hn10 : 10 ≤ n) (hn : n ≤ 9223372036854775807) (b0 : 0 ≤ h0 ∧ h0 ≤ 255) (b1 : 0 ≤ h1 ∧ h1 ≤ 255) (b2 : 0 ≤ h2 ∧ h2 ≤ 255) (b3 : 0 ≤ h3 ∧ h3 ≤ 255) (b4 : 0 ≤ h4 ∧ h4 ≤ 255) (b5 : 0 ≤ h5 ∧ h5 ≤ 255) (b6 : 0 ≤ h6 ∧ h6 ≤ 255) (b7 : 0 ≤ h7 ∧ h7 ≤ 255) (b8 : 0 ≤ h8 ∧ h8 ≤ 255) (b9 : 0 ≤ h9 ∧ h9 ≤ 255) :
    Calls Tryz.prog 63 #[.slice (some ⟨g, o, none⟩) n cap] w fun e w' => e = .returned (.int .i64 (csum h0 h1 h2 h3 h4 h5 h6 h7 h8 h9)) ∧ ∃ m, w' = w.drewN m := by
  obtain ⟨g', o', he, _, hc⟩ := hd.2 (by simp)
  simp only [Option.some.injEq, Addr.mk.injEq] at he
  obtain ⟨rfl, rfl, _⟩ := he
  have e0 : Hid (∀ m, (w.drewN m).cell? ⟨g, o + 0, none⟩ = some (.int .u8 h0)) := fun m => by simpa using hc 0 (by simp)
  have e1 : Hid (∀ m, (w.drewN m).cell? ⟨g, o + 1, none⟩ = some (.int .u8 h1)) := fun m => by simpa using hc 1 (by simp)
  have e2 : Hid (∀ m, (w.drewN m).cell? ⟨g, o + 2, none⟩ = some (.int .u8 h2)) := fun m => by simpa using hc 2 (by simp)
  have e3 : Hid (∀ m, (w.drewN m).cell? ⟨g, o + 3, none⟩ = some (.int .u8 h3)) := fun m => by simpa using hc 3 (by simp)
  have e4 : Hid (∀ m, (w.drewN m).cell? ⟨g, o + 4, none⟩ = some (.int .u8 h4)) := fun m => by simpa using hc 4 (by simp)
  have e5 : Hid (∀ m, (w.drewN m).cell? ⟨g, o + 5, none⟩ = some (.int .u8 h5)) := fun m => by simpa using hc 5 (by simp)
  have e6 : Hid (∀ m, (w.drewN m).cell? ⟨g, o + 6, none⟩ = some (.int .u8 h6)) := fun m => by simpa using hc 6 (by simp)
  have e7 : Hid (∀ m, (w.drewN m).cell? ⟨g, o + 7, none⟩ = some (.int .u8 h7)) := fun m => by simpa using hc 7 (by simp)
  have e8 : Hid (∀ m, (w.drewN m).cell? ⟨g, o + 8, none⟩ = some (.int .u8 h8)) := fun m => by simpa using hc 8 (by simp)
  have e9 : Hid (∀ m, (w.drewN m).cell? ⟨g, o + 9, none⟩ = some (.int .u8 h9)) := fun m => by simpa using hc 9 (by simp)
  clear hc hd
  go_enter Tryz.func63, Tryz.ntmps63
  go_wp2_with fail
  go_loopw [3, 4, 5] (fun s i _ wr => ∃ k : Nat, k ≤ 5 ∧ i = .int .i64 (2 * (k : Int)) ∧ s = .int .i64 (tk h0 h1 h2 h3 h4 h5 h6 h7 h8 h9 k) ∧ ∃ m, wr = w.drewN m)
    (fun _ i _ _ => 10 - (intOf i).toNat)
  case atStart => exact ⟨0, by omega, rfl, rfl, 0, rfl⟩
  case round =>
    obtain ⟨k, hk, rfl, rfl, m, rfl⟩ := hrel
    by_cases hk5 : k = 5
    · subst hk5
      have hb : 0 ≤ tk h0 h1 h2 h3 h4 h5 h6 h7 h8 h9 5 ∧ tk h0 h1 h2 h3 h4 h5 h6 h7 h8 h9 5 ≤ 1000000 := by simp only [tk]; omega
      have HC : Hid (csum h0 h1 h2 h3 h4 h5 h6 h7 h8 h9 = 65535 - norm (tk h0 h1 h2 h3 h4 h5 h6 h7 h8 h9 5)) := rfl
      generalize tk h0 h1 h2 h3 h4 h5 h6 h7 h8 h9 5 = t at *
      by_cases ht : t = 0
      · subst ht
        go_wp2
        go_ret
        exact ⟨ret_int (by rw [HC.out]; rfl), _, rfl⟩
      · have ht' : (t == 0) = false := by simpa using ht
        go_wp2
        go_ret
        refine ⟨ret_int ?_, _, rfl⟩
        rw [HC.out, norm, if_neg ht]
    · rcases (show k = 0 ∨ k = 1 ∨ k = 2 ∨ k = 3 ∨ k = 4 by omega) with rfl | rfl | rfl | rfl | rfl
      · have hb : 0 ≤ tk h0 h1 h2 h3 h4 h5 h6 h7 h8 h9 0 ∧ tk h0 h1 h2 h3 h4 h5 h6 h7 h8 h9 0 ≤ 1000000 := by simp only [tk]; omega
        have HT : Hid (tk h0 h1 h2 h3 h4 h5 h6 h7 h8 h9 0 + (h0 * 256 + h1) = tk h0 h1 h2 h3 h4 h5 h6 h7 h8 h9 1) := by show _ = _; simp [tk]
        generalize tk h0 h1 h2 h3 h4 h5 h6 h7 h8 h9 0 = t at *
        go_wp2_with (first | (go_at_call 65; refine (number_int g o n cap 0 _ h0 h1 (by omega) _ b0 b1 (by omega) hn (e0.out _) (e1.out _)).mono ?_; rintro e w' ⟨rfl, m', rfl⟩))
        go_roundw
        case rel => exact ⟨1, by omega, by go_num, by rw [← HT.out], _, rfl⟩
        case measure => simp [intOf]
      · have hb : 0 ≤ tk h0 h1 h2 h3 h4 h5 h6 h7 h8 h9 1 ∧ tk h0 h1 h2 h3 h4 h5 h6 h7 h8 h9 1 ≤ 1000000 := by simp only [tk]; omega
        have HT : Hid (tk h0 h1 h2 h3 h4 h5 h6 h7 h8 h9 1 + (h2 * 256 + h3) = tk h0 h1 h2 h3 h4 h5 h6 h7 h8 h9 2) := by show _ = _; simp [tk]
        generalize tk h0 h1 h2 h3 h4 h5 h6 h7 h8 h9 1 = t at *
        go_wp2_with (first | (go_at_call 65; refine (number_int g o n cap 2 _ h2 h3 (by omega) _ b2 b3 (by omega) hn (e2.out _) (e3.out _)).mono ?_; rintro e w' ⟨rfl, m', rfl⟩))
        go_roundw
        case rel => exact ⟨2, by omega, by go_num, by rw [← HT.out], _, rfl⟩
        case measure => simp [intOf]
      · have hb : 0 ≤ tk h0 h1 h2 h3 h4 h5 h6 h7 h8 h9 2 ∧ tk h0 h1 h2 h3 h4 h5 h6 h7 h8 h9 2 ≤ 1000000 := by simp only [tk]; omega
        have HT : Hid (tk h0 h1 h2 h3 h4 h5 h6 h7 h8 h9 2 + (h4 * 256 + h5) = tk h0 h1 h2 h3 h4 h5 h6 h7 h8 h9 3) := by show _ = _; simp [tk]
        generalize tk h0 h1 h2 h3 h4 h5 h6 h7 h8 h9 2 = t at *
        go_wp2_with (first | (go_at_call 65; refine (number_int g o n cap 4 _ h4 h5 (by omega) _ b4 b5 (by omega) hn (e4.out _) (e5.out _)).mono ?_; rintro e w' ⟨rfl, m', rfl⟩))
        go_roundw
        case rel => exact ⟨3, by omega, by go_num, by rw [← HT.out], _, rfl⟩
        case measure => simp [intOf]
      · have hb : 0 ≤ tk h0 h1 h2 h3 h4 h5 h6 h7 h8 h9 3 ∧ tk h0 h1 h2 h3 h4 h5 h6 h7 h8 h9 3 ≤ 1000000 := by simp only [tk]; omega
        have HT : Hid (tk h0 h1 h2 h3 h4 h5 h6 h7 h8 h9 3 + (h6 * 256 + h7) = tk h0 h1 h2 h3 h4 h5 h6 h7 h8 h9 4) := by show _ = _; simp [tk]
        generalize tk h0 h1 h2 h3 h4 h5 h6 h7 h8 h9 3 = t at *
        go_wp2_with (first | (go_at_call 65; refine (number_int g o n cap 6 _ h6 h7 (by omega) _ b6 b7 (by omega) hn (e6.out _) (e7.out _)).mono ?_; rintro e w' ⟨rfl, m', rfl⟩))
        go_roundw
        case rel => exact ⟨4, by omega, by go_num, by rw [← HT.out], _, rfl⟩
        case measure => simp [intOf]
      · have hb : 0 ≤ tk h0 h1 h2 h3 h4 h5 h6 h7 h8 h9 4 ∧ tk h0 h1 h2 h3 h4 h5 h6 h7 h8 h9 4 ≤ 1000000 := by simp only [tk]; omega
        have HT : Hid (tk h0 h1 h2 h3 h4 h5 h6 h7 h8 h9 4 + (h8 * 256 + h9) = tk h0 h1 h2 h3 h4 h5 h6 h7 h8 h9 5) := by show _ = _; simp [tk]
        generalize tk h0 h1 h2 h3 h4 h5 h6 h7 h8 h9 4 = t at *
        go_wp2_with (first | (go_at_call 65; refine (number_int g o n cap 8 _ h8 h9 (by omega) _ b8 b9 (by omega) hn (e8.out _) (e9.out _)).mono ?_; rintro e w' ⟨rfl, m', rfl⟩))
        go_roundw
        case rel => exact ⟨5, by omega, by go_num, by rw [← HT.out], _, rfl⟩
        case measure => simp [intOf]

end Go.Proofs.YtajphdppmdoalaaGreat

namespace Go.Proofs.YtajphdppmdoalaaGreat
open Go.RowKit
set_option linter.unusedVariables false

end Go.Proofs.YtajphdppmdoalaaGreat

namespace Go.Proofs.YtajphdppmdoalaaGreat
open Go.RowKit
set_option linter.unusedVariables false

theorem rem31 (h : Int) (h0 : 0 ≤ h) : ∃ r : Nat, h % 31 = (r : Int) ∧ r < 31 ∧ r = h.toNat % 31 ∧ (r : Int) < 31 := ⟨h.toNat % 31, by omega, Nat.mod_lt _ (by decide), rfl, by omega⟩

set_option maxRecDepth 100000 in
set_option maxHeartbeats 1600000 in
theorem rowner_any (yb : Nat) (src dst proto id off : Int) (more : Bool) (sport dport : Int) (ao : Option Addr) (n cap : Nat) (R : Int) (w : World) (hsrc : 0 ≤ src ∧ src ≤ 65535) (hdst : 0 ≤ dst ∧ dst ≤ 65535) (hproto : 0 ≤ proto ∧ proto ≤ 255) (hid : 0 ≤ id ∧ id ≤ 65535) (hsport : 0 ≤ sport ∧ sport ≤ 65535) (hdport : 0 ≤ dport ∧ dport ≤ 65535) (hR : 1 ≤ R ∧ R ≤ 5) (cR : w.cell? ⟨yb, 0, none⟩ = some (.int .i64 R)) (hyb : yb < w.heap.size) :
    Calls Tryz.prog 51 #[.pointer (some ⟨yb, 0, none⟩), .agg #[.int .u16 src, .int .u16 dst, .int .u8 proto, .int .u16 id, .int .u8 off, .bool more, .int .u16 sport, .int .u16 dport, .slice ao n cap]] w fun e w' => e = .returned (.int .i64 (dgH src dst proto id % R)) ∧ Below w.heap.size w w' := by
  have HCR := hide cR
  clear cR
  unfold dgH
  go_enter Tryz.func51, Tryz.ntmps51
  go_wp2_with fail
  obtain ⟨i0, hi, hz0, hz1, hz2⟩ := info_parts info_u8
  generalize hWW : (w.alloc (.cells #[.int .u16 src, .int .u16 dst, .int .u8 proto, .int .u16 id, .int .u8 off, .bool more, .int .u16 sport, .int .u16 dport, .slice ao n cap] 40)) = w1
  have HB1 : Hid (Below (w.heap.size + 1) (w.alloc (.cells #[.int .u16 src, .int .u16 dst, .int .u8 proto, .int .u16 id, .int .u8 off, .bool more, .int .u16 sport, .int .u16 dport, .slice ao n cap] 40)) w1) := by rw [← hWW]; exact Below.refl _ _
  have hz1' : w.heap.size + 1 ≤ w1.heap.size := by rw [← hWW]; simp
  clear hWW
  have cc := box_cell HB1.out
  refine (two_any src _ (by omega) (by omega)).mono ?_
  rintro e wt ⟨rfl, rfl⟩
  go_wp2_with (at_builtin; refine wpList_append_own _ rfl (.tmp 7) (.tmp 11) 38 rfl (w.heap.size + 1) 5 i0 (.int .u8 0) 1 1 Tryz.underlying38 hi hz0 hz1 hz2 rfl (by decide) _ _ _ rfl (World.ownsRow_nil _ _ _ _) ⟨w1.heap.size, 0, none⟩ 2 2 [.int .u8 (src / 256), .int .u8 (src % 256)] rfl rfl (cells_new _ _ _) (by simp [Value.oneCell']) (by unfold maxLen; omega) (by omega) (by simp; try omega) ?_)
  intro v2 w2 hown hgrow hiff
  have HT2 : Hid (w2.ownsRow (w.heap.size + 1) 5 1 v2 2 ([src / 256, src % 256].map (Value.int .u8))) := by show World.ownsRow _ _ _ _ _ _ _; simpa using hown
  have HB2 : Hid (Below (w.heap.size + 1) (w.alloc (.cells #[.int .u16 src, .int .u16 dst, .int .u8 proto, .int .u16 id, .int .u8 off, .bool more, .int .u16 sport, .int .u16 dport, .slice ao n cap] 40)) w2) := (HB1.out.alloc hz1' _).grown hgrow (by simp; try omega) (by simp [Value.ownBlock])
  have hz2' : w.heap.size + 1 ≤ w2.heap.size := by have := HB2.out.size; simpa using this
  clear hown hgrow hiff cc HB1 hz1'
  have cc := box_cell HB2.out
  go_wp2_with fail
  refine (two_any dst _ (by omega) (by omega)).mono ?_
  rintro e wt ⟨rfl, rfl⟩
  go_wp2_with (at_builtin; refine wpList_append_own _ rfl (.tmp 13) (.tmp 17) 38 rfl (w.heap.size + 1) 5 i0 (.int .u8 0) 1 1 Tryz.underlying38 hi hz0 hz1 hz2 rfl (by decide) _ _ _ rfl (HT2.out.alloc _) ⟨w2.heap.size, 0, none⟩ 2 2 [.int .u8 (dst / 256), .int .u8 (dst % 256)] rfl rfl (cells_new _ _ _) (by simp [Value.oneCell']) (by unfold maxLen; omega) (by omega) (by simp; try omega) ?_)
  intro v3 w3 hown hgrow hiff
  have HT3 : Hid (w3.ownsRow (w.heap.size + 1) 5 1 v3 4 ([src / 256, src % 256, dst / 256, dst % 256].map (Value.int .u8))) := by show World.ownsRow _ _ _ _ _ _ _; simpa using hown
  have HB3 : Hid (Below (w.heap.size + 1) (w.alloc (.cells #[.int .u16 src, .int .u16 dst, .int .u8 proto, .int .u16 id, .int .u8 off, .bool more, .int .u16 sport, .int .u16 dport, .slice ao n cap] 40)) w3) := (HB2.out.alloc hz2' _).grown hgrow (by simp; try omega) (fun q hq => (HT2.out.lt q hq).1)
  have hz3' : w.heap.size + 1 ≤ w3.heap.size := by have := HB3.out.size; simpa using this
  clear hown hgrow hiff cc HB2 hz2' HT2
  have cc := box_cell HB3.out
  go_wp2_with (at_builtin; refine wpList_append_own _ rfl (.tmp 19) (.tmp 22) 38 rfl (w.heap.size + 1) 5 i0 (.int .u8 0) 1 1 Tryz.underlying38 hi hz0 hz1 hz2 rfl (by decide) _ _ _ rfl (HT3.out.alloc _) ⟨w3.heap.size, 0, none⟩ 1 1 [_] rfl rfl (cell_one_new _ _ _) (by simp [Value.oneCell']) (by unfold maxLen; omega) (by omega) (by simp; try omega) ?_)
  intro v4 w4 hown hgrow hiff
  have HT4 : Hid (w4.ownsRow (w.heap.size + 1) 5 1 v4 5 ([src / 256, src % 256, dst / 256, dst % 256, proto].map (Value.int .u8))) := by show World.ownsRow _ _ _ _ _ _ _; simpa using hown
  have HB4 : Hid (Below (w.heap.size + 1) (w.alloc (.cells #[.int .u16 src, .int .u16 dst, .int .u8 proto, .int .u16 id, .int .u8 off, .bool more, .int .u16 sport, .int .u16 dport, .slice ao n cap] 40)) w4) := (HB3.out.alloc hz3' _).grown hgrow (by simp; try omega) (fun q hq => (HT3.out.lt q hq).1)
  have hz4' : w.heap.size + 1 ≤ w4.heap.size := by have := HB4.out.size; simpa using this
  clear hown hgrow hiff cc HB3 hz3' HT3
  have cc := box_cell HB4.out
  go_wp2_with fail
  refine (two_any id _ (by omega) (by omega)).mono ?_
  rintro e wt ⟨rfl, rfl⟩
  go_wp2_with (at_builtin; refine wpList_append_own _ rfl (.tmp 24) (.tmp 28) 38 rfl (w.heap.size + 1) 5 i0 (.int .u8 0) 1 1 Tryz.underlying38 hi hz0 hz1 hz2 rfl (by decide) _ _ _ rfl (HT4.out.alloc _) ⟨w4.heap.size, 0, none⟩ 2 2 [.int .u8 (id / 256), .int .u8 (id % 256)] rfl rfl (cells_new _ _ _) (by simp [Value.oneCell']) (by unfold maxLen; omega) (by omega) (by simp; try omega) ?_)
  intro v5 w5 hown hgrow hiff
  have HT5 : Hid (w5.ownsRow (w.heap.size + 1) 5 1 v5 7 ([src / 256, src % 256, dst / 256, dst % 256, proto, id / 256, id % 256].map (Value.int .u8))) := by show World.ownsRow _ _ _ _ _ _ _; simpa using hown
  have HB5 : Hid (Below (w.heap.size + 1) (w.alloc (.cells #[.int .u16 src, .int .u16 dst, .int .u8 proto, .int .u16 id, .int .u8 off, .bool more, .int .u16 sport, .int .u16 dport, .slice ao n cap] 40)) w5) := (HB4.out.alloc hz4' _).grown hgrow (by simp; try omega) (fun q hq => (HT4.out.lt q hq).1)
  have hz5' : w.heap.size + 1 ≤ w5.heap.size := by have := HB5.out.size; simpa using this
  clear hown hgrow hiff cc HB4 hz4' HT4
  obtain ⟨g5, q5, rfl⟩ := (own_shape HT5.out).resolve_left (by rintro rfl; rcases HT5.out.2 with ⟨_, h⟩ | ⟨_, _, _, h, _⟩; omega; simp at h)
  have HH := hide (rhash_any (some ⟨g5, 0, none⟩) 7 q5 [src / 256, src % 256, dst / 256, dst % 256, proto, id / 256, id % 256] w5 rfl (owns_has HT5.out).1 (by omega) (by intro z hz; simp at hz; omega))
  have hhb := hsh_bd [src / 256, src % 256, dst / 256, dst % 256, proto, id / 256, id % 256]
  have HB := hide (below_old HB5.out)
  have hzw : w.heap.size + 1 ≤ w5.heap.size := hz5'
  clear HT5 HB5
  generalize hE : hsh [src / 256, src % 256, dst / 256, dst % 256, proto, id / 256, id % 256] = hh
  rw [hE] at HH hhb
  have HE := hide hE
  clear hE
  go_wp2_with fail
  refine HH.out.mono ?_
  rintro e w9 ⟨rfl, m9, rfl⟩
  have HBm : Hid (Below w.heap.size w (w5.drewN m9)) := below_drew HB.out m9
  generalize hW9 : w5.drewN m9 = w9
  rw [hW9] at HBm
  clear hW9 HH HB
  have c9 := (HBm.out.cell (p := ⟨yb, 0, none⟩) hyb).trans HCR.out
  have hR0 : (R == 0) = false := by rw [beq_eq_false_iff_ne]; omega
  go_wp2
  go_ret
  exact ⟨ret_int (by rw [HE.out]), HBm.out⟩

set_option maxRecDepth 100000 in
set_option maxHeartbeats 1600000 in
theorem rchosen_any (yb gs cs : Nat) (T : List Int) (src dst proto id off : Int) (more : Bool) (sport dport : Int) (ao : Option Addr) (n cap : Nat) (w : World) (hsrc : 0 ≤ src ∧ src ≤ 65535) (hdst : 0 ≤ dst ∧ dst ≤ 65535) (hproto : 0 ≤ proto ∧ proto ≤ 255) (hid : 0 ≤ id ∧ id ≤ 65535) (hsport : 0 ≤ sport ∧ sport ≤ 65535) (hdport : 0 ≤ dport ∧ dport ≤ 65535) (cS : w.cell? ⟨yb, 4, none⟩ = some (.slice (some ⟨gs, 0, none⟩) 31 cs)) (hyb : yb < w.heap.size) (hT : ∀ j, j < 31 → w.cell? ⟨gs, j, none⟩ = some (.int .u8 (T.getD j 0))) (hgs : gs < w.heap.size) :
    Calls Tryz.prog 76 #[.pointer (some ⟨yb, 0, none⟩), .agg #[.int .u16 src, .int .u16 dst, .int .u8 proto, .int .u16 id, .int .u8 off, .bool more, .int .u16 sport, .int .u16 dport, .slice ao n cap]] w fun e w' => e = .returned (.int .u8 (T.getD ((flH src dst proto sport dport).toNat % 31) 0)) ∧ Below w.heap.size w w' := by
  have HCS := hide cS
  have HT' := hide hT
  clear cS hT
  unfold flH
  go_enter Tryz.func76, Tryz.ntmps76
  go_wp2_with fail
  obtain ⟨i0, hi, hz0, hz1, hz2⟩ := info_parts info_u8
  generalize hWW : (w.alloc (.cells #[.int .u16 src, .int .u16 dst, .int .u8 proto, .int .u16 id, .int .u8 off, .bool more, .int .u16 sport, .int .u16 dport, .slice ao n cap] 40)) = w1
  have HB1 : Hid (Below (w.heap.size + 1) (w.alloc (.cells #[.int .u16 src, .int .u16 dst, .int .u8 proto, .int .u16 id, .int .u8 off, .bool more, .int .u16 sport, .int .u16 dport, .slice ao n cap] 40)) w1) := by rw [← hWW]; exact Below.refl _ _
  have hz1' : w.heap.size + 1 ≤ w1.heap.size := by rw [← hWW]; simp
  clear hWW
  have cc := box_cell HB1.out
  refine (two_any src _ (by omega) (by omega)).mono ?_
  rintro e wt ⟨rfl, rfl⟩
  go_wp2_with (at_builtin; refine wpList_append_own _ rfl (.tmp 7) (.tmp 11) 38 rfl (w.heap.size + 1) 5 i0 (.int .u8 0) 1 1 Tryz.underlying38 hi hz0 hz1 hz2 rfl (by decide) _ _ _ rfl (World.ownsRow_nil _ _ _ _) ⟨w1.heap.size, 0, none⟩ 2 2 [.int .u8 (src / 256), .int .u8 (src % 256)] rfl rfl (cells_new _ _ _) (by simp [Value.oneCell']) (by unfold maxLen; omega) (by omega) (by simp; try omega) ?_)
  intro v2 w2 hown hgrow hiff
  have HT2 : Hid (w2.ownsRow (w.heap.size + 1) 5 1 v2 2 ([src / 256, src % 256].map (Value.int .u8))) := by show World.ownsRow _ _ _ _ _ _ _; simpa using hown
  have HB2 : Hid (Below (w.heap.size + 1) (w.alloc (.cells #[.int .u16 src, .int .u16 dst, .int .u8 proto, .int .u16 id, .int .u8 off, .bool more, .int .u16 sport, .int .u16 dport, .slice ao n cap] 40)) w2) := (HB1.out.alloc hz1' _).grown hgrow (by simp; try omega) (by simp [Value.ownBlock])
  have hz2' : w.heap.size + 1 ≤ w2.heap.size := by have := HB2.out.size; simpa using this
  clear hown hgrow hiff cc HB1 hz1'
  have cc := box_cell HB2.out
  go_wp2_with fail
  refine (two_any dst _ (by omega) (by omega)).mono ?_
  rintro e wt ⟨rfl, rfl⟩
  go_wp2_with (at_builtin; refine wpList_append_own _ rfl (.tmp 13) (.tmp 17) 38 rfl (w.heap.size + 1) 5 i0 (.int .u8 0) 1 1 Tryz.underlying38 hi hz0 hz1 hz2 rfl (by decide) _ _ _ rfl (HT2.out.alloc _) ⟨w2.heap.size, 0, none⟩ 2 2 [.int .u8 (dst / 256), .int .u8 (dst % 256)] rfl rfl (cells_new _ _ _) (by simp [Value.oneCell']) (by unfold maxLen; omega) (by omega) (by simp; try omega) ?_)
  intro v3 w3 hown hgrow hiff
  have HT3 : Hid (w3.ownsRow (w.heap.size + 1) 5 1 v3 4 ([src / 256, src % 256, dst / 256, dst % 256].map (Value.int .u8))) := by show World.ownsRow _ _ _ _ _ _ _; simpa using hown
  have HB3 : Hid (Below (w.heap.size + 1) (w.alloc (.cells #[.int .u16 src, .int .u16 dst, .int .u8 proto, .int .u16 id, .int .u8 off, .bool more, .int .u16 sport, .int .u16 dport, .slice ao n cap] 40)) w3) := (HB2.out.alloc hz2' _).grown hgrow (by simp; try omega) (fun q hq => (HT2.out.lt q hq).1)
  have hz3' : w.heap.size + 1 ≤ w3.heap.size := by have := HB3.out.size; simpa using this
  clear hown hgrow hiff cc HB2 hz2' HT2
  have cc := box_cell HB3.out
  go_wp2_with (at_builtin; refine wpList_append_own _ rfl (.tmp 19) (.tmp 22) 38 rfl (w.heap.size + 1) 5 i0 (.int .u8 0) 1 1 Tryz.underlying38 hi hz0 hz1 hz2 rfl (by decide) _ _ _ rfl (HT3.out.alloc _) ⟨w3.heap.size, 0, none⟩ 1 1 [_] rfl rfl (cell_one_new _ _ _) (by simp [Value.oneCell']) (by unfold maxLen; omega) (by omega) (by simp; try omega) ?_)
  intro v4 w4 hown hgrow hiff
  have HT4 : Hid (w4.ownsRow (w.heap.size + 1) 5 1 v4 5 ([src / 256, src % 256, dst / 256, dst % 256, proto].map (Value.int .u8))) := by show World.ownsRow _ _ _ _ _ _ _; simpa using hown
  have HB4 : Hid (Below (w.heap.size + 1) (w.alloc (.cells #[.int .u16 src, .int .u16 dst, .int .u8 proto, .int .u16 id, .int .u8 off, .bool more, .int .u16 sport, .int .u16 dport, .slice ao n cap] 40)) w4) := (HB3.out.alloc hz3' _).grown hgrow (by simp; try omega) (fun q hq => (HT3.out.lt q hq).1)
  have hz4' : w.heap.size + 1 ≤ w4.heap.size := by have := HB4.out.size; simpa using this
  clear hown hgrow hiff cc HB3 hz3' HT3
  have cc := box_cell HB4.out
  go_wp2_with fail
  refine (two_any sport _ (by omega) (by omega)).mono ?_
  rintro e wt ⟨rfl, rfl⟩
  go_wp2_with (at_builtin; refine wpList_append_own _ rfl (.tmp 24) (.tmp 28) 38 rfl (w.heap.size + 1) 5 i0 (.int .u8 0) 1 1 Tryz.underlying38 hi hz0 hz1 hz2 rfl (by decide) _ _ _ rfl (HT4.out.alloc _) ⟨w4.heap.size, 0, none⟩ 2 2 [.int .u8 (sport / 256), .int .u8 (sport % 256)] rfl rfl (cells_new _ _ _) (by simp [Value.oneCell']) (by unfold maxLen; omega) (by omega) (by simp; try omega) ?_)
  intro v5 w5 hown hgrow hiff
  have HT5 : Hid (w5.ownsRow (w.heap.size + 1) 5 1 v5 7 ([src / 256, src % 256, dst / 256, dst % 256, proto, sport / 256, sport % 256].map (Value.int .u8))) := by show World.ownsRow _ _ _ _ _ _ _; simpa using hown
  have HB5 : Hid (Below (w.heap.size + 1) (w.alloc (.cells #[.int .u16 src, .int .u16 dst, .int .u8 proto, .int .u16 id, .int .u8 off, .bool more, .int .u16 sport, .int .u16 dport, .slice ao n cap] 40)) w5) := (HB4.out.alloc hz4' _).grown hgrow (by simp; try omega) (fun q hq => (HT4.out.lt q hq).1)
  have hz5' : w.heap.size + 1 ≤ w5.heap.size := by have := HB5.out.size; simpa using this
  clear hown hgrow hiff cc HB4 hz4' HT4
  have cc := box_cell HB5.out
  go_wp2_with fail
  refine (two_any dport _ (by omega) (by omega)).mono ?_
  rintro e wt ⟨rfl, rfl⟩
  go_wp2_with (at_builtin; refine wpList_append_own _ rfl (.tmp 30) (.tmp 34) 38 rfl (w.heap.size + 1) 5 i0 (.int .u8 0) 1 1 Tryz.underlying38 hi hz0 hz1 hz2 rfl (by decide) _ _ _ rfl (HT5.out.alloc _) ⟨w5.heap.size, 0, none⟩ 2 2 [.int .u8 (dport / 256), .int .u8 (dport % 256)] rfl rfl (cells_new _ _ _) (by simp [Value.oneCell']) (by unfold maxLen; omega) (by omega) (by simp; try omega) ?_)
  intro v6 w6 hown hgrow hiff
  have HT6 : Hid (w6.ownsRow (w.heap.size + 1) 5 1 v6 9 ([src / 256, src % 256, dst / 256, dst % 256, proto, sport / 256, sport % 256, dport / 256, dport % 256].map (Value.int .u8))) := by show World.ownsRow _ _ _ _ _ _ _; simpa using hown
  have HB6 : Hid (Below (w.heap.size + 1) (w.alloc (.cells #[.int .u16 src, .int .u16 dst, .int .u8 proto, .int .u16 id, .int .u8 off, .bool more, .int .u16 sport, .int .u16 dport, .slice ao n cap] 40)) w6) := (HB5.out.alloc hz5' _).grown hgrow (by simp; try omega) (fun q hq => (HT5.out.lt q hq).1)
  have hz6' : w.heap.size + 1 ≤ w6.heap.size := by have := HB6.out.size; simpa using this
  clear hown hgrow hiff cc HB5 hz5' HT5
  obtain ⟨g6, q6, rfl⟩ := (own_shape HT6.out).resolve_left (by rintro rfl; rcases HT6.out.2 with ⟨_, h⟩ | ⟨_, _, _, h, _⟩; omega; simp at h)
  have HH := hide (rhash_any (some ⟨g6, 0, none⟩) 9 q6 [src / 256, src % 256, dst / 256, dst % 256, proto, sport / 256, sport % 256, dport / 256, dport % 256] w6 rfl (owns_has HT6.out).1 (by omega) (by intro z hz; simp at hz; omega))
  have hhb := hsh_bd [src / 256, src % 256, dst / 256, dst % 256, proto, sport / 256, sport % 256, dport / 256, dport % 256]
  have HB := hide (below_old HB6.out)
  have hzw : w.heap.size + 1 ≤ w6.heap.size := hz6'
  clear HT6 HB6
  generalize hE : hsh [src / 256, src % 256, dst / 256, dst % 256, proto, sport / 256, sport % 256, dport / 256, dport % 256] = hh
  rw [hE] at HH hhb
  have HE := hide hE
  clear hE
  go_wp2_with fail
  refine HH.out.mono ?_
  rintro e w9 ⟨rfl, m9, rfl⟩
  have HBm : Hid (Below w.heap.size w (w6.drewN m9)) := below_drew HB.out m9
  generalize hW9 : w6.drewN m9 = w9
  rw [hW9] at HBm
  clear hW9 HH HB
  have c9 := (HBm.out.cell (p := ⟨yb, 4, none⟩) hyb).trans HCS.out
  obtain ⟨r, hr, hr31, hre, hri⟩ := rem31 hh hhb.1
  have c8 := (HBm.out.cell (p := ⟨gs, r, none⟩) hgs).trans (HT'.out r hr31)
  have HRE := hide hre
  clear hre
  go_wp2
  go_ret
  exact ⟨ret_int (by rw [HE.out, ← HRE.out, List.getD_eq_getElem?_getD]), HBm.out⟩

end Go.Proofs.YtajphdppmdoalaaGreat
