import Derived.Test.YtajphdppmdoalaaGreatV2
import Derived.Test.YtajphdppmdoalaaGreatX1
namespace Go.Proofs.YtajphdppmdoalaaGreat
open Go.RowKit
set_option linter.unusedVariables false

theorem up_len (zs : List Int) (h : upC zs = 0) : (upP zs).data.length ≤ 32 := by
  by_cases h12 : zs.length < 12
  · have : upC zs = 2 := by
      unfold upC
      split
      · simp at h12; omega
      · rfl
    omega
  obtain ⟨h0, h1, h2, h3, h4, h5, h6, h7, h8, h9, h10, h11, r, rfl⟩ := split12 zs (by omega)
  simp only [upC, List.cons_append, List.nil_append] at h
  split at h
  · omega
  split at h
  · omega
  split at h
  · omega
  split at h
  · omega
  rename_i hw
  have hw : wfB h8 (h0 == 17) (spOf h8 r) (dpOf h8 r) (dtOf h8 r).length = true := by simpa using hw
  simp only [upP, List.cons_append, List.nil_append]
  revert hw
  generalize (dtOf h8 r).length = L
  unfold wfB
  simp
  omega

theorem wunpack_any (lo hi wb c : Nat) (vl : Value) (kind ee aa bb src dst proto id off : Int) (more : Bool) (sport dport : Int) (dso : Option Addr) (dsn dsc : Nat) (ao : Option Addr) (n cap : Nat) (zs : List Int) (w : World) (hB : Bk w lo hi wb vl c) (hd : Lst w ao n cap zs) (hlh : lo ≤ hi) (hc : (4 * c + 4) * 24 ≤ 140737488355328) :
    Calls Tryz.prog 17 #[.pointer (some ⟨wb, 0, none⟩), .agg #[.int .i64 kind, .int .i64 ee, .int .i64 aa, .int .i64 bb, .int .u16 src, .int .u16 dst, .int .u8 proto, .int .u16 id, .int .u8 off, .bool more, .int .u16 sport, .int .u16 dport, .slice dso dsn dsc, .slice ao n cap]] w fun e w' => e = .returned (.bool true) ∧ Bk w' lo w'.heap.size wb vl (c + 1) ∧ Below lo w w' := by
  obtain ⟨h1, h2, h3, h4, h5, h6, h7⟩ := hd
  cases ao with
  | none =>
    obtain rfl := h2.1 rfl
    obtain rfl : n = 0 := by simpa using h1.symm
    obtain rfl := h5 rfl
    exact wunpack_ne lo hi wb c vl kind ee aa bb src dst proto id off more sport dport dso dsn dsc w hB hlh hc (by decide)
  | some ad =>
    by_cases hup : upC zs = 0
    · exact wunpack_so lo hi wb c vl kind ee aa bb src dst proto id off more sport dport dso dsn dsc ad n cap zs w hB h1 h2 h3 h4 h6 h7 hlh hc hup (up_len zs hup)
    · exact wunpack_se lo hi wb c vl kind ee aa bb src dst proto id off more sport dport dso dsn dsc ad n cap zs w hB h1 h2 h3 h4 h6 h7 hlh hc hup

set_option maxRecDepth 100000 in
set_option maxHeartbeats 800000 in
theorem step_unpack (lo hi wb c : Nat) (vl : Value) (ee aa bb src dst proto id off : Int) (more : Bool) (sport dport : Int) (dso : Option Addr) (dsn dsc : Nat) (ao : Option Addr) (n cap : Nat) (zs : List Int) (w : World) (hB : Bk w lo hi wb vl c) (hd : Lst w ao n cap zs) (hlh : lo ≤ hi) (hc : (4 * c + 4) * 24 ≤ 140737488355328) :
    Calls Tryz.prog 12 #[.pointer (some ⟨wb, 0, none⟩), .agg #[.int .i64 2, .int .i64 ee, .int .i64 aa, .int .i64 bb, .int .u16 src, .int .u16 dst, .int .u8 proto, .int .u16 id, .int .u8 off, .bool more, .int .u16 sport, .int .u16 dport, .slice dso dsn dsc, .slice ao n cap]] w fun e w' => e = .returned (.bool true) ∧ Bk w' lo w'.heap.size wb vl (c + 1) ∧ Below lo w w' := by
  have hhz : hi ≤ w.heap.size := by obtain ⟨_, _, _, _, _, _, h, _⟩ := hB; exact h
  have H : Hid (∀ o, Calls Tryz.prog 17 #[.pointer (some ⟨wb, 0, none⟩), .agg #[.int .i64 2, .int .i64 ee, .int .i64 aa, .int .i64 bb, .int .u16 src, .int .u16 dst, .int .u8 proto, .int .u16 id, .int .u8 off, .bool more, .int .u16 sport, .int .u16 dport, .slice dso dsn dsc, .slice ao n cap]] (w.alloc o) fun e w' => e = .returned (.bool true) ∧ Bk w' lo w'.heap.size wb vl (c + 1) ∧ Below lo (w.alloc o) w') := fun o => wunpack_any lo hi wb c vl 2 ee aa bb src dst proto id off more sport dport dso dsn dsc ao n cap zs (w.alloc o) (hB.below ((Below.refl _ _).alloc hhz _)) (hd.below ((Below.refl _ _).alloc (Nat.le_refl _) _)) hlh hc
  have HLO : Hid (lo ≤ w.heap.size) := Nat.le_trans hlh hhz
  clear hB hd
  go_enter Tryz.func12, Tryz.ntmps12
  go_wp2_with fail
  refine (H.out _).mono ?_
  rintro e w1 ⟨rfl, hB1, hb1⟩
  have HB1 := hide hB1
  have HBe : Hid (Below lo w w1) := ((Below.refl _ _).alloc HLO.out _).trans hb1
  clear hB1 hb1 H
  go_wp2
  go_ret
  exact ⟨rfl, HB1.out, HBe.out⟩

theorem step_unpack_does : StepDoes 2 := by
  intro lo hi wb c vl w b o ee aa bb src dst proto id off more sport dport ao n cap zs so sn sc ys h hB hlh hc
  exact step_unpack lo hi wb c vl ee aa bb src dst proto id off more sport dport ao n cap so sn sc ys w hB h.bytes hlh hc

set_option maxRecDepth 100000 in
set_option maxHeartbeats 400000 in
theorem unpacks_any (ao : Option Addr) (N cap : Nat) (w : World) (hS : ScriptIn w ao N) (hN : N * 96 ≤ 140737488351232) :
    Calls Tryz.prog 4 #[.slice ao N cap] w fun e w' => e = .returned (.bool true) ∧ Below w.heap.size w w' := by
  have H : Hid (Calls Tryz.prog 9 #[.slice ao N cap, .slice (some ⟨w.heap.size, 0, none⟩) 1 1] (w.alloc (.cells #[.int .i64 2] 3)) fun e w' => e = .returned (.bool true) ∧ Below (w.alloc (.cells #[.int .i64 2] 3)).heap.size (w.alloc (.cells #[.int .i64 2] 3)) w') := by
    rcases hS with rfl | ⟨b, o, rfl, hS⟩
    · exact plays_empty 2 (by decide) ao cap w.heap.size _ (by simp) (by simp)
    · exact plays_one 2 (by decide) step_unpack_does b o N cap w.heap.size _ (hS.below ((Below.refl _ _).alloc (Nat.le_refl _) _)) hN (by simp) (by simp)
  clear hS
  go_enter Tryz.func4, Tryz.ntmps4
  go_wp2_with fail
  refine H.out.mono ?_
  rintro e w1 ⟨rfl, hb⟩
  have HBe : Hid (Below w.heap.size w w1) := ((Below.refl _ _).alloc (Nat.le_refl _) _).trans (hb.mono (by simp))
  clear hb H
  go_wp2
  go_ret
  exact ⟨rfl, HBe.out⟩

end Go.Proofs.YtajphdppmdoalaaGreat
