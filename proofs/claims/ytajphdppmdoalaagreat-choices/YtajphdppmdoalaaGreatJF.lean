import Derived.Test.YtajphdppmdoalaaGreatJE
import Derived.Test.YtajphdppmdoalaaGreatX1
namespace Go.Proofs.YtajphdppmdoalaaGreat
open Go.RowKit
set_option linter.unusedVariables false

theorem wch_3 (lo hi wb c : Nat) (vl : Value) (ee aa bb src dst proto id off : Int) (more : Bool) (sport dport : Int) (dso : Option Addr) (dsn dsc : Nat) (ao : Option Addr) (n cap : Nat) (zs : List Int) (w : World) (hB : Bk w lo hi wb vl c) (hd : Lst w ao n cap zs) (hlh : lo ≤ hi) (hc : (4 * c + 4) * 24 ≤ 140737488355328) :
    Calls Tryz.prog 18 #[.pointer (some ⟨wb, 0, none⟩), .agg #[.int .i64 3, .int .i64 ee, .int .i64 aa, .int .i64 bb, .int .u16 src, .int .u16 dst, .int .u8 proto, .int .u16 id, .int .u8 off, .bool more, .int .u16 sport, .int .u16 dport, .slice dso dsn dsc, .slice ao n cap]] w fun e w' => e = .returned (.bool true) ∧ (∃ c', c' ≤ c + 1 ∧ Bk w' lo w'.heap.size wb vl c') ∧ Below lo w w' := by
  obtain ⟨h1, h2, h3, h4, h5, h6, h7⟩ := hd
  cases ao with
  | none =>
    obtain rfl := h2.1 rfl
    obtain rfl : n = 0 := by simpa using h1.symm
    obtain rfl := h5 rfl
    exact (wch_hn lo hi wb c vl ee aa bb src dst proto id off more sport dport dso dsn dsc w hB hlh hc).mono (fun e w' h => ⟨h.1, ⟨c, by omega, h.2.1⟩, h.2.2⟩)
  | some ad => exact (wch_hs lo hi wb c vl ee aa bb src dst proto id off more sport dport dso dsn dsc ad n cap zs w hB h1 h2 h3 h4 hlh hc).mono (fun e w' h => ⟨h.1, ⟨c, by omega, h.2.1⟩, h.2.2⟩)

set_option maxRecDepth 100000 in
set_option maxHeartbeats 800000 in
theorem step_3 (lo hi wb c : Nat) (vl : Value) (ee aa bb src dst proto id off : Int) (more : Bool) (sport dport : Int) (dso : Option Addr) (dsn dsc : Nat) (ao : Option Addr) (n cap : Nat) (zs : List Int) (w : World) (hB : Bk w lo hi wb vl c) (hd : Lst w ao n cap zs) (hlh : lo ≤ hi) (hc : (4 * c + 4) * 24 ≤ 140737488355328) :
    Calls Tryz.prog 12 #[.pointer (some ⟨wb, 0, none⟩), .agg #[.int .i64 3, .int .i64 ee, .int .i64 aa, .int .i64 bb, .int .u16 src, .int .u16 dst, .int .u8 proto, .int .u16 id, .int .u8 off, .bool more, .int .u16 sport, .int .u16 dport, .slice dso dsn dsc, .slice ao n cap]] w fun e w' => e = .returned (.bool true) ∧ (∃ c', c' ≤ c + 1 ∧ Bk w' lo w'.heap.size wb vl c') ∧ Below lo w w' := by
  have hhz : hi ≤ w.heap.size := by obtain ⟨_, _, _, _, _, _, h, _⟩ := hB; exact h
  have H : Hid (∀ o, Calls Tryz.prog 18 #[.pointer (some ⟨wb, 0, none⟩), .agg #[.int .i64 3, .int .i64 ee, .int .i64 aa, .int .i64 bb, .int .u16 src, .int .u16 dst, .int .u8 proto, .int .u16 id, .int .u8 off, .bool more, .int .u16 sport, .int .u16 dport, .slice dso dsn dsc, .slice ao n cap]] (w.alloc o) fun e w' => e = .returned (.bool true) ∧ (∃ c', c' ≤ c + 1 ∧ Bk w' lo w'.heap.size wb vl c') ∧ Below lo (w.alloc o) w') := fun o => wch_3 lo hi wb c vl ee aa bb src dst proto id off more sport dport dso dsn dsc ao n cap zs (w.alloc o) (hB.below ((Below.refl _ _).alloc hhz _)) (hd.below ((Below.refl _ _).alloc (Nat.le_refl _) _)) hlh hc
  have HLO : Hid (lo ≤ w.heap.size) := Nat.le_trans hlh hhz
  clear hB hd
  go_enter Tryz.func12, Tryz.ntmps12
  go_wp2_with fail
  refine (H.out _).mono ?_
  rintro e w1 ⟨rfl, hB1, hb1⟩
  have HB1 := hide hB1
  have HBe : Hid (Below lo w w1) := ((Below.refl _ _).alloc HLO.out _).trans hb1
  clear hB1 hb1 H
  go_wp2
  go_ret
  exact ⟨rfl, HB1.out, HBe.out⟩

theorem wch_4 (lo hi wb c : Nat) (vl : Value) (ee aa bb src dst proto id off : Int) (more : Bool) (sport dport : Int) (dso : Option Addr) (dsn dsc : Nat) (ao : Option Addr) (n cap : Nat) (zs : List Int) (w : World) (hB : Bk w lo hi wb vl c) (hd : Lst w ao n cap zs) (hlh : lo ≤ hi) (hc : (4 * c + 4) * 24 ≤ 140737488355328) :
    Calls Tryz.prog 18 #[.pointer (some ⟨wb, 0, none⟩), .agg #[.int .i64 4, .int .i64 ee, .int .i64 aa, .int .i64 bb, .int .u16 src, .int .u16 dst, .int .u8 proto, .int .u16 id, .int .u8 off, .bool more, .int .u16 sport, .int .u16 dport, .slice dso dsn dsc, .slice ao n cap]] w fun e w' => e = .returned (.bool true) ∧ (∃ c', c' ≤ c + 1 ∧ Bk w' lo w'.heap.size wb vl c') ∧ Below lo w w' := by
  obtain ⟨h1, h2, h3, h4, h5, h6, h7⟩ := hd
  cases ao with
  | none =>
    obtain rfl := h2.1 rfl
    obtain rfl : n = 0 := by simpa using h1.symm
    obtain rfl := h5 rfl
    exact (wch_ne lo hi wb c vl ee aa bb src dst proto id off more sport dport dso dsn dsc w hB hlh hc (by rw [tE]; simp)).mono (fun e w' h => ⟨h.1, ⟨c + 1, by omega, h.2.1⟩, h.2.2⟩)
  | some ad =>
    by_cases hte : tE zs = 0
    · exact (wch_so lo hi wb c vl ee aa bb src dst proto id off more sport dport dso dsn dsc ad n cap zs w hB h1 h2 h3 h4 hlh hc hte).mono (fun e w' h => ⟨h.1, ⟨c + 1, by omega, h.2.1⟩, h.2.2⟩)
    · exact (wch_se lo hi wb c vl ee aa bb src dst proto id off more sport dport dso dsn dsc ad n cap zs w hB h1 h2 h3 h4 hlh hc hte).mono (fun e w' h => ⟨h.1, ⟨c + 1, by omega, h.2.1⟩, h.2.2⟩)

set_option maxRecDepth 100000 in
set_option maxHeartbeats 800000 in
theorem step_4 (lo hi wb c : Nat) (vl : Value) (ee aa bb src dst proto id off : Int) (more : Bool) (sport dport : Int) (dso : Option Addr) (dsn dsc : Nat) (ao : Option Addr) (n cap : Nat) (zs : List Int) (w : World) (hB : Bk w lo hi wb vl c) (hd : Lst w ao n cap zs) (hlh : lo ≤ hi) (hc : (4 * c + 4) * 24 ≤ 140737488355328) :
    Calls Tryz.prog 12 #[.pointer (some ⟨wb, 0, none⟩), .agg #[.int .i64 4, .int .i64 ee, .int .i64 aa, .int .i64 bb, .int .u16 src, .int .u16 dst, .int .u8 proto, .int .u16 id, .int .u8 off, .bool more, .int .u16 sport, .int .u16 dport, .slice dso dsn dsc, .slice ao n cap]] w fun e w' => e = .returned (.bool true) ∧ (∃ c', c' ≤ c + 1 ∧ Bk w' lo w'.heap.size wb vl c') ∧ Below lo w w' := by
  have hhz : hi ≤ w.heap.size := by obtain ⟨_, _, _, _, _, _, h, _⟩ := hB; exact h
  have H : Hid (∀ o, Calls Tryz.prog 18 #[.pointer (some ⟨wb, 0, none⟩), .agg #[.int .i64 4, .int .i64 ee, .int .i64 aa, .int .i64 bb, .int .u16 src, .int .u16 dst, .int .u8 proto, .int .u16 id, .int .u8 off, .bool more, .int .u16 sport, .int .u16 dport, .slice dso dsn dsc, .slice ao n cap]] (w.alloc o) fun e w' => e = .returned (.bool true) ∧ (∃ c', c' ≤ c + 1 ∧ Bk w' lo w'.heap.size wb vl c') ∧ Below lo (w.alloc o) w') := fun o => wch_4 lo hi wb c vl ee aa bb src dst proto id off more sport dport dso dsn dsc ao n cap zs (w.alloc o) (hB.below ((Below.refl _ _).alloc hhz _)) (hd.below ((Below.refl _ _).alloc (Nat.le_refl _) _)) hlh hc
  have HLO : Hid (lo ≤ w.heap.size) := Nat.le_trans hlh hhz
  clear hB hd
  go_enter Tryz.func12, Tryz.ntmps12
  go_wp2_with fail
  refine (H.out _).mono ?_
  rintro e w1 ⟨rfl, hB1, hb1⟩
  have HB1 := hide hB1
  have HBe : Hid (Below lo w w1) := ((Below.refl _ _).alloc HLO.out _).trans hb1
  clear hB1 hb1 H
  go_wp2
  go_ret
  exact ⟨rfl, HB1.out, HBe.out⟩

/-- What a step of kind K does to the book: at most one list more. -/
def StepMay (K : Int) : Prop := ∀ (lo hi wb c : Nat) (vl : Value) (w : World) (b o : Nat) (ee aa bb src dst proto id off : Int) (more : Bool) (sport dport : Int) (ao : Option Addr) (n cap : Nat) (zs : List Int) (so : Option Addr) (sn sc : Nat) (ys : List Int),
  StepIs w b o K ee aa bb src dst proto id off more sport dport ao n cap zs so sn sc ys → Bk w lo hi wb vl c → lo ≤ hi → (4 * c + 4) * 24 ≤ 140737488355328 →
  Calls Tryz.prog 12 #[.pointer (some ⟨wb, 0, none⟩), .agg #[.int .i64 K, .int .i64 ee, .int .i64 aa, .int .i64 bb, .int .u16 src, .int .u16 dst, .int .u8 proto, .int .u16 id, .int .u8 off, .bool more, .int .u16 sport, .int .u16 dport, .slice ao n cap, .slice so sn sc]] w fun e w' => e = .returned (.bool true) ∧ (∃ c', c' ≤ c + 1 ∧ Bk w' lo w'.heap.size wb vl c') ∧ Below lo w w'
theorem may_3 : StepMay 3 := by
  intro lo hi wb c vl w b o ee aa bb src dst proto id off more sport dport ao n cap zs so sn sc ys h hB hlh hc
  exact step_3 lo hi wb c vl ee aa bb src dst proto id off more sport dport ao n cap so sn sc ys w hB h.bytes hlh hc
theorem may_4 : StepMay 4 := by
  intro lo hi wb c vl w b o ee aa bb src dst proto id off more sport dport ao n cap zs so sn sc ys h hB hlh hc
  exact step_4 lo hi wb c vl ee aa bb src dst proto id off more sport dport ao n cap so sn sc ys w hB h.bytes hlh hc

set_option maxHeartbeats 400000 in
theorem needs_two (gk : Nat) (k1 k2 : Int) (w : World) (h1 : (k1 == 5) = false) (h2 : (k2 == 5) = false) (c0 : w.cell? ⟨gk, 0, none⟩ = some (.int .i64 k1)) (c1 : w.cell? ⟨gk, 1, none⟩ = some (.int .i64 k2)) :
    Calls Tryz.prog 10 #[.slice (some ⟨gk, 0, none⟩) 2 2] w fun e w' => e = .returned (.bool false) ∧ w' = w := by
  go_enter Tryz.func10, Tryz.ntmps10
  go_wp2_with fail
  go_loop [3] (fun i => ∃ q : Nat, q ≤ 2 ∧ i = .int .i64 q) (fun i => 2 - (intOf i).toNat)
  case atStart => exact ⟨0, by omega, rfl⟩
  case round =>
    obtain ⟨q, hq, rfl⟩ := hrel
    rcases (show q = 0 ∨ q = 1 ∨ q = 2 by omega) with rfl | rfl | rfl
    · go_wp2
      go_round
      case rel => exact ⟨1, by omega, by go_num⟩
      case measure => simp [intOf]
    · go_wp2
      go_round
      case rel => exact ⟨2, by omega, by go_num⟩
      case measure => simp [intOf]
    · go_wp2
      go_ret
      exact ⟨rfl, rfl⟩

set_option maxRecDepth 100000 in
set_option maxHeartbeats 800000 in
theorem plays_none (k1 k2 : Int) (h1 : (k1 == 5) = false) (h2 : (k2 == 5) = false) (ao : Option Addr) (cap gk : Nat) (w : World) (hk : w.cell? ⟨gk, 0, none⟩ = some (.int .i64 k1)) (hk' : w.cell? ⟨gk, 1, none⟩ = some (.int .i64 k2)) (hgk : gk < w.heap.size) :
    Calls Tryz.prog 9 #[.slice ao 0 cap, .slice (some ⟨gk, 0, none⟩) 2 2] w fun e w' => e = .returned (.bool true) ∧ Below w.heap.size w w' := by
  have hk1 : ∀ O, (w.alloc O).cell? ⟨gk, 0, none⟩ = some (.int .i64 k1) := fun O => (World.cell?_alloc_past O _ _ hgk).trans hk
  have hk2 : ∀ O, (w.alloc O).cell? ⟨gk, 1, none⟩ = some (.int .i64 k2) := fun O => (World.cell?_alloc_past O _ _ hgk).trans hk'
  clear hk hk'
  go_enter Tryz.func9, Tryz.ntmps9
  go_wp2_with fail
  refine (needs_two gk k1 k2 _ h1 h2 (hk1 _) (hk2 _)).mono ?_
  rintro e w1 ⟨rfl, rfl⟩
  go_wp2_with fail
  refine wp_loop_rounds 1 ?_
  rw [rounds_succ]
  go_wp2
  go_ret
  exact ⟨rfl, (Below.refl _ _).alloc (Nat.le_refl _) _⟩

set_option maxRecDepth 100000 in
set_option maxHeartbeats 3200000 in
theorem plays_two (K1 K2 : Int) (h1 : (K1 == 5) = false) (h2 : (K2 == 5) = false) (hd1 : StepMay K1) (hd2 : StepMay K2) (b o N cap gk : Nat) (w : World) (hS : Script w b o N) (hN : N * 96 ≤ 140737488351232) (hk : w.cell? ⟨gk, 0, none⟩ = some (.int .i64 K1)) (hk' : w.cell? ⟨gk, 1, none⟩ = some (.int .i64 K2)) (hgk : gk < w.heap.size) :
    Calls Tryz.prog 9 #[.slice (some ⟨b, o, none⟩) N cap, .slice (some ⟨gk, 0, none⟩) 2 2] w fun e w' => e = .returned (.bool true) ∧ Below w.heap.size w w' := by
  have HS := hide hS
  have HD : Hid (∀ K, (K == K1 || K == K2) = true → StepMay K) := fun K h => by
    rcases Bool.or_eq_true _ _ ▸ h with h | h
    · rw [beq_iff_eq] at h; subst h; exact hd1
    · rw [beq_iff_eq] at h; subst h; exact hd2
  have HK := hide hk
  have HK' := hide hk'
  clear hS hd1 hd2
  have hk1 : ∀ O, (w.alloc O).cell? ⟨gk, 0, none⟩ = some (.int .i64 K1) := fun O => (World.cell?_alloc_past O _ _ hgk).trans hk
  have hk2 : ∀ O, (w.alloc O).cell? ⟨gk, 1, none⟩ = some (.int .i64 K2) := fun O => (World.cell?_alloc_past O _ _ hgk).trans hk'
  clear hk hk'
  go_enter Tryz.func9, Tryz.ntmps9
  go_wp2_with fail
  refine (needs_two gk K1 K2 _ h1 h2 (hk1 _) (hk2 _)).mono ?_
  rintro e w1 ⟨rfl, rfl⟩
  clear hk1 hk2
  go_wp2_with fail
  go_loopw [8] (fun i8 wr => ∃ i c : Nat, i ≤ N ∧ c ≤ i ∧ i8 = .int .i64 i ∧ Hid (Bk wr w.heap.size wr.heap.size w.heap.size (.slice none 0 0) c) ∧ Hid (Below w.heap.size w wr)) (fun i8 _ => N - (intOf i8).toNat)
  case atStart => exact ⟨0, 0, by omega, by omega, rfl, bk_start w, (Below.refl _ _).alloc (Nat.le_refl _) _⟩
  case round =>
    obtain ⟨i, c, hi, hci, rfl, HB, HW⟩ := hrel
    by_cases hlt : i < N
    · obtain ⟨kind, ee, aa, bb, src, dst, proto, id, off, more, sport, dport, ao, n, dcap, zs, so, sn, sc, ys, hst⟩ := HS.out i hlt
      have hst' := hst.below HW.out
      have HST := hide hst'
      have ck : wr.cell? ⟨gk, 0, none⟩ = some (.int .i64 K1) := (HW.out.cell (p := ⟨gk, 0, none⟩) hgk).trans HK.out
      have ck' : wr.cell? ⟨gk, 1, none⟩ = some (.int .i64 K2) := (HW.out.cell (p := ⟨gk, 1, none⟩) hgk).trans HK'.out
      have s0 : wr.cell? ⟨b, o + i * 14, none⟩ = some (.int .i64 kind) := hst'.cell 0 _ rfl

      have s1 := hst'.cell 1 _ rfl
      have s2 := hst'.cell 2 _ rfl
      have s3 := hst'.cell 3 _ rfl
      have s4 := hst'.cell 4 _ rfl
      have s5 := hst'.cell 5 _ rfl
      have s6 := hst'.cell 6 _ rfl
      have s7 := hst'.cell 7 _ rfl
      have s8 := hst'.cell 8 _ rfl
      have s9 := hst'.cell 9 _ rfl
      have s10 := hst'.cell 10 _ rfl
      have s11 := hst'.cell 11 _ rfl
      have s12 := hst'.cell 12 _ rfl
      have s13 := hst'.cell 13 _ rfl
      clear hst hst'
      go_wp2_with fail
      go_loopw [9, 10] (fun in9 k10 wi => ((k10 = .int .i64 0 ∧ in9 = .bool false) ∨ (k10 = .int .i64 1 ∧ in9 = .bool (kind == K1)) ∨ (k10 = .int .i64 2 ∧ in9 = .bool (kind == K1 || kind == K2))) ∧ ∃ m, wi = wr.drewN m) (fun _ k10 _ => 2 - (intOf k10).toNat)
      case atStart => exact ⟨.inl ⟨rfl, rfl⟩, 0, rfl⟩
      case round =>
        obtain ⟨h | h | h, m, rfl⟩ := hrel
        · obtain ⟨rfl, rfl⟩ := h
          have i1 : (i : Int) < (N : Int) := by omega
          go_wp2_with fail
          go_quiet (fail)
          go_wp2
          go_roundw
          case rel => exact ⟨.inr (.inl ⟨by go_num, by simp⟩), _, rfl⟩
          case measure => simp [intOf]
        · obtain ⟨rfl, rfl⟩ := h
          have i1 : (i : Int) < (N : Int) := by omega
          cases hk1 : (kind == K1)
          · go_wp2_with fail
            go_quiet (fail)
            go_wp2
            go_roundw
            case rel => exact ⟨.inr (.inr ⟨by go_num, by simp⟩), _, rfl⟩
            case measure => simp [intOf]
          · go_wp2_with fail
            go_quiet (fail)
            go_wp2
            go_roundw
            case rel => exact ⟨.inr (.inr ⟨by go_num, by simp⟩), _, rfl⟩
            case measure => simp [intOf]
        · obtain ⟨rfl, rfl⟩ := h
          cases hkk : (kind == K1 || kind == K2)
          · go_wp2
            go_roundw
            case rel => exact ⟨i + 1, c, by omega, by omega, by go_num, HB.out.below (below_drewN (Below.refl _ _) m), below_drewN HW.out m⟩
            case measure => simp [intOf]; omega
          · have HM := hide (HD.out kind hkk)
            clear hkk
            have i1 : (i : Int) < (N : Int) := by omega
            go_wp2_with fail
            refine (HM.out w.heap.size wr.heap.size w.heap.size c (.slice none 0 0) (wr.drewN m) b (o + i * 14) ee aa bb src dst proto id off more sport dport ao n dcap zs so sn sc ys (HST.out.below (below_drewN (Below.refl _ _) m)) (HB.out.below (below_drewN (Below.refl _ _) m)) HW.out.size (by omega)).mono ?_
            rintro e w2 ⟨rfl, ⟨c', hc', hB2⟩, hb2⟩
            have HB2 := hide hB2
            have HW2 : Hid (Below w.heap.size w w2) := (below_drewN HW.out m).trans hb2
            clear hB2 hb2 s0 s1 s2 s3 s4 s5 s6 s7 s8 s9 s10 s11 s12 s13 ck ck' HST HB HW
            go_wp2_with fail
            refine (kept_any _ _ _ c' _ w2 HB2.out (by omega)).mono ?_
            rintro e w3 ⟨rfl, m3, rfl⟩
            go_wp2
            go_roundw
            case rel => exact ⟨i + 1, c', by omega, by omega, by go_num, HB2.out.below (below_drewN (Below.refl _ _) m3), below_drewN HW2.out m3⟩
            case measure => simp [intOf]; omega
    · go_wp2
      go_ret
      exact ⟨rfl, HW.out⟩

set_option maxRecDepth 100000 in
set_option maxHeartbeats 400000 in
theorem choices_any (ao : Option Addr) (N cap : Nat) (w : World) (hS : ScriptIn w ao N) (hN : N * 96 ≤ 140737488351232) :
    Calls Tryz.prog 5 #[.slice ao N cap] w fun e w' => e = .returned (.bool true) ∧ Below w.heap.size w w' := by
  have H : Hid (Calls Tryz.prog 9 #[.slice ao N cap, .slice (some ⟨w.heap.size, 0, none⟩) 2 2] (w.alloc (.cells #[.int .i64 3, .int .i64 4] 3)) fun e w' => e = .returned (.bool true) ∧ Below (w.alloc (.cells #[.int .i64 3, .int .i64 4] 3)).heap.size (w.alloc (.cells #[.int .i64 3, .int .i64 4] 3)) w') := by
    rcases hS with rfl | ⟨b, o, rfl, hS⟩
    · exact plays_none 3 4 (by decide) (by decide) ao cap w.heap.size _ (by simp) (by simp) (by simp)
    · exact plays_two 3 4 (by decide) (by decide) may_3 may_4 b o N cap w.heap.size _ (hS.below ((Below.refl _ _).alloc (Nat.le_refl _) _)) hN (by simp) (by simp) (by simp)
  clear hS
  go_enter Tryz.func5, Tryz.ntmps5
  go_wp2_with fail
  refine H.out.mono ?_
  rintro e w1 ⟨rfl, hb⟩
  have HBe : Hid (Below w.heap.size w w1) := ((Below.refl _ _).alloc (Nat.le_refl _) _).trans (hb.mono (by simp))
  clear hb H
  go_wp2
  go_ret
  exact ⟨rfl, HBe.out⟩

end Go.Proofs.YtajphdppmdoalaaGreat
