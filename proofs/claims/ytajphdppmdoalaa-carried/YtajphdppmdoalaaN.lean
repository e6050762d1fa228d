import Derived.Test.YtajphdppmdoalaaM
namespace Go.Proofs.Ytajphdppmdoalaa
open Go.RowKit
set_option linter.unusedVariables false

theorem has_drop {w : World} {g o : Nat} {zs : List Int} (k : Nat) (h : Has w (some ⟨g, o, none⟩) zs) : Has w (some ⟨g, o + k, none⟩) (zs.drop k) := by
  refine ⟨by simp, fun hz => ?_⟩
  obtain ⟨b, o', he, hlt, hc⟩ := h.2 (by intro e; subst e; simp at hz)
  simp only [Option.some.injEq, Addr.mk.injEq] at he
  obtain ⟨rfl, rfl, _⟩ := he
  refine ⟨g, o + k, rfl, hlt, fun j hj => ?_⟩
  have h1 := hc (k + j) (by simp at hj; omega)
  rw [show o + k + j = o + (k + j) by omega, h1, List.getD_eq_getElem?_getD, List.getD_eq_getElem?_getD, List.getElem?_drop]

set_option maxRecDepth 100000 in
set_option maxHeartbeats 1600000 in
theorem carried_0t (src dst id proto sport dport off units rest : Int) (u r : Nat) (w : World) (hsrc0 : 0 ≤ src) (hsrc : src ≤ 65535) (hdst0 : 0 ≤ dst) (hdst : dst ≤ 65535) (hproto0 : 0 ≤ proto) (hproto : proto ≤ 255) (hid0 : 0 ≤ id) (hid : id ≤ 65535) (hsport0 : 0 ≤ sport) (hsport : sport ≤ 65535) (hdport0 : 0 ≤ dport) (hdport : dport ≤ 65535)
    (b1 : -9223372036854775808 ≤ off ∧ off ≤ 9223372036854775807) (b2 : -9223372036854775808 ≤ units ∧ units ≤ 9223372036854775807) (b3 : -9223372036854775808 ≤ rest ∧ rest ≤ 9223372036854775807)
    (ho : pk off 16 = 0) (hu : pk units 8 = u) (hr : pk rest 4 = r) (hu8 : u ≤ 7) (_hr4 : r ≤ 3) :
    Calls Try.prog 3 #[.agg #[.int .u16 src, .int .u16 dst, .int .u16 id, .int .u8 proto, .int .u16 sport, .int .u16 dport], .int .i64 off, .int .i64 units, .int .i64 rest, .bool true] w fun e w' => e = .returned (.bool true) ∧ Below w.heap.size w w' := by
  have K1 : Hid (∀ w, Calls Try.prog 9 #[.int .i64 off, .int .i64 16] w fun e w' => e = .returned (.int .i64 0) ∧ w' = w) := by intro w; have h := pick_any off 16 w b1.1 b1.2 (by decide) (by decide); rw [ho] at h; exact h
  have K2 : Hid (∀ w, Calls Try.prog 9 #[.int .i64 units, .int .i64 8] w fun e w' => e = .returned (.int .i64 u) ∧ w' = w) := by intro w; have h := pick_any units 8 w b2.1 b2.2 (by decide) (by decide); rw [hu] at h; exact h
  have K3 : Hid (∀ w, Calls Try.prog 9 #[.int .i64 rest, .int .i64 4] w fun e w' => e = .returned (.int .i64 r) ∧ w' = w) := by intro w; have h := pick_any rest 4 w b3.1 b3.2 (by decide) (by decide); rw [hr] at h; exact h
  obtain ⟨n, hn⟩ : ∃ n : Nat, n = (4 * (1 + u)) := ⟨_, rfl⟩
  have hn1 : 1 ≤ n ∧ n ≤ 32 ∧ n % 4 = 0 := by omega
  have HN : Hid ((4 * (1 + (u : Int))) = (n : Int)) := by show _ = _; omega
  have HWF : Hid (wfB 0 true sport dport n = true) := by show _ = _; simp [wfB]; omega
  clear hn ho hu hr b1 b2 b3
  go_enter Try.func3, Try.ntmps3
  go_wp2_with fail
  refine (K1.out _).mono ?_
  rintro e w1 ⟨rfl, rfl⟩
  go_wp2_with fail
  refine (K2.out _).mono ?_
  rintro e w1 ⟨rfl, rfl⟩
  go_wp2_with fail
  rw [HN.out]
  clear K1 K2 K3
  refine (packet_0 src dst id proto sport dport n true rest _ (by omega)).mono ?_
  rintro e w1 ⟨v1, rfl, ho1, hb1⟩
  obtain ⟨ao, cv, rfl, hh1, hl1, _, _, hnil⟩ := owns_any ho1
  clear ho1
  have HB1 : Hid (Below w.heap.size w w1) := ((Below.refl _ _).alloc (Nat.le_refl _) _).trans (hb1.mono (by simp))
  have HH1 := hide hh1
  clear hb1 hh1
  go_wp2_with fail
  refine (packed_yes src dst proto id 0 true sport dport ao n cv (fl rest n) _ hsrc0 hsrc hdst0 hdst hproto0 hproto hid0 hid (by omega) (by omega) hsport0 hsport hdport0 hdport hl1 hnil (HH1.out.below ((Below.refl _ _).alloc (Nat.le_refl _) _)) HWF.out).mono ?_
  rintro e w2 ⟨g, cb, rfl, ho2, hb2⟩
  have hwf' : wfB 0 true sport dport (fl rest n).length = true := by rw [hl1]; exact HWF.out
  obtain ⟨hup0, hupP⟩ := up_pk src dst proto id 0 true sport dport (fl rest n) hsrc0 hsrc hdst0 hdst hproto0 hproto hid0 hid (by omega) (by omega) hsport0 hsport hdport0 hdport hwf'
  have hby := pk_bytes src dst proto id 0 true sport dport (fl rest n) hsrc0 hsrc hdst0 hdst hproto0 hproto hid0 hid (by omega) (by omega) hsport0 hsport hdport0 hdport (by rw [hl1]; omega) (fl_bd rest n)
  have hLe : pkL src dst proto id 0 true sport dport (fl rest n) = hdL src dst proto id 0 true (fl rest n).length ++ ptL 0 sport dport ++ fl rest n := rfl
  have hLn : (pkL src dst proto id 0 true sport dport (fl rest n)).length = 16 + n := by rw [hLe]; simp [hdL, ptL, hl1]; omega
  have hLd : (pkL src dst proto id 0 true sport dport (fl rest n)).drop 16 = fl rest n := by rw [hLe]; simp [hdL, ptL]
  clear hLe hwf'
  generalize hL : pkL src dst proto id 0 true sport dport (fl rest n) = L at *
  clear hL
  rw [hLn] at ho2 ⊢
  obtain ⟨hh2, hl2, hc2, hm2⟩ := owns_has ho2
  have HH2 := hide hh2
  have HB2 : Hid (Below (w1.heap.size + 1) (w1.alloc (.cells #[.int .u16 src, .int .u16 dst, .int .u8 proto, .int .u16 id, .int .u8 0, .bool true, .int .u16 sport, .int .u16 dport, .slice ao n cv] 28)) w2) := hb2.mono (by simp)
  have HUP := hide (And.intro hup0 hupP)
  have HBY := hide hby
  have HL := hide (And.intro hLd (And.intro hc2 hm2))
  clear hup0 hupP hby hLd hc2 hm2 ho2 hb2 hh2 hLn
  go_wp2_with fail
  refine (funpack_any _ _ cb L w2 hl2 HL.out.2.1 HL.out.2.2 HH2.out HBY.out).mono ?_
  rintro e w3 ⟨hb3, h3⟩
  rcases h3 with ⟨_, v3, rfl, ho3⟩ | ⟨hbad, _⟩
  rotate_left
  · exact absurd HUP.out.1 hbad
  rw [HUP.out.2] at ho3 ⊢
  simp only at ho3 ⊢
  obtain ⟨ao3, cv3, rfl, hh3, _, _, _, _⟩ := owns_any ho3
  rw [hl1] at ho3 ⊢
  have hz12 : w1.heap.size < w2.heap.size := by have := HB2.out.size; simp at this; omega
  have HB3 : Hid (Below (w1.heap.size + 1) (w1.alloc (.cells #[.int .u16 src, .int .u16 dst, .int .u8 proto, .int .u16 id, .int .u8 0, .bool true, .int .u16 sport, .int .u16 dport, .slice ao n cv] 28)) w3) := HB2.out.trans (hb3.mono (by omega))
  have hz13 : w1.heap.size < w3.heap.size := by have := hb3.size; omega
  have cp := box_cell HB3.out
  have HHP : Hid (Has w3 ao (fl rest n)) := HH1.out.below (((Below.refl _ _).alloc (Nat.le_refl _) _).trans (HB3.out.mono (by omega)))
  have HH3 := hide hh3
  have HB23 := hide hb3
  clear ho3 hh3 hb3 HUP HBY
  go_wp2_with fail
  refine (same_true src dst proto id 0 true sport dport (fl rest n) ao ao3 n cv cv3 _ hl1 (HHP.out.below ((Below.refl _ _).alloc (Nat.le_refl _) _)) (HH3.out.below ((Below.refl _ _).alloc (Nat.le_refl _) _))).mono ?_
  rintro e w4 ⟨rfl, hb4⟩
  have HB4 : Hid (Below w3.heap.size w3 w4) := ((Below.refl _ _).alloc (Nat.le_refl _) _).trans (hb4.mono (by simp))
  have cp4 : w4.cell? ⟨w1.heap.size, 8, none⟩ = some (.slice ao n cv) := (HB4.out.cell (p := ⟨w1.heap.size, 8, none⟩) hz13).trans (by rw [cp 8]; rfl)
  have heq := fun wx => Lib.run_eql_slice_nil (P := Try.prog) wx 26 5 (some ⟨g, 0, none⟩) (16 + n) cb 0 0 Try.underlying26
  clear hb4 cp
  have HB24 : Hid (Below w2.heap.size w2 w4) := HB23.out.trans (HB4.out.mono HB23.out.size)
  have HHd : Hid (Has w4 (some ⟨g, 16, none⟩) (fl rest n)) := by
    have h := has_drop 16 (HH2.out.below HB24.out)
    rw [HL.out.1, Nat.zero_add] at h
    exact h
  have hcA : ∀ m, (convert 26 9 (.slice (some ⟨g, 16, none⟩) n (cb - 16))).run Try.prog (w4.drewN m) = .ok (.string (strOfNums (fl rest n))) (w4.drewN m) := by
    intro m
    have h := conv_has (w := w4.drewN m) (HHd.out.below (below_drewN (Below.refl _ _) m)) (cb - 16)
    rw [hl1] at h
    exact h
  have hcB : ∀ m, (convert 26 9 (.slice ao n cv)).run Try.prog (w4.drewN m) = .ok (.string (strOfNums (fl rest n))) (w4.drewN m) := by
    intro m
    have h := conv_has (w := w4.drewN m) (HHP.out.below (HB4.out.trans (below_drewN (Below.refl _ _) m))) cv
    rw [hl1] at h
    exact h
  have i1 : 16 < cb := by have := HL.out.2.1; omega
  have i2 : 16 + n ≤ cb := HL.out.2.1
  have i3 : cb ≤ 9223372036854775807 := by have := HL.out.2.2; unfold maxLen at this; omega
  have HBe : Hid (Below w.heap.size w w4) := HB1.out.trans ((((Below.refl w1.heap.size w1).alloc (Nat.le_refl _) _).trans ((HB3.out.trans (HB4.out.mono (by omega))).mono (by omega))).mono (by have := HB1.out.size; omega))
  clear HB1 HB2 HB3 HB4 HB23 HB24 HH1 HH2 HH3 HHP HHd HL HN HWF hz12 hz13 hnil
  go_wp2_with fail
  go_quiet (fail)
  go_wp2
  go_ret
  exact ⟨by simp, below_drewN HBe.out _⟩

set_option maxRecDepth 100000 in
set_option maxHeartbeats 1600000 in
theorem carried_0f (src dst id proto sport dport off units rest : Int) (u r : Nat) (w : World) (hsrc0 : 0 ≤ src) (hsrc : src ≤ 65535) (hdst0 : 0 ≤ dst) (hdst : dst ≤ 65535) (hproto0 : 0 ≤ proto) (hproto : proto ≤ 255) (hid0 : 0 ≤ id) (hid : id ≤ 65535) (hsport0 : 0 ≤ sport) (hsport : sport ≤ 65535) (hdport0 : 0 ≤ dport) (hdport : dport ≤ 65535)
    (b1 : -9223372036854775808 ≤ off ∧ off ≤ 9223372036854775807) (b2 : -9223372036854775808 ≤ units ∧ units ≤ 9223372036854775807) (b3 : -9223372036854775808 ≤ rest ∧ rest ≤ 9223372036854775807)
    (ho : pk off 16 = 0) (hu : pk units 8 = u) (hr : pk rest 4 = r) (hu8 : u ≤ 7) (hr4 : r ≤ 3) :
    Calls Try.prog 3 #[.agg #[.int .u16 src, .int .u16 dst, .int .u16 id, .int .u8 proto, .int .u16 sport, .int .u16 dport], .int .i64 off, .int .i64 units, .int .i64 rest, .bool false] w fun e w' => e = .returned (.bool true) ∧ Below w.heap.size w w' := by
  have K1 : Hid (∀ w, Calls Try.prog 9 #[.int .i64 off, .int .i64 16] w fun e w' => e = .returned (.int .i64 0) ∧ w' = w) := by intro w; have h := pick_any off 16 w b1.1 b1.2 (by decide) (by decide); rw [ho] at h; exact h
  have K2 : Hid (∀ w, Calls Try.prog 9 #[.int .i64 units, .int .i64 8] w fun e w' => e = .returned (.int .i64 u) ∧ w' = w) := by intro w; have h := pick_any units 8 w b2.1 b2.2 (by decide) (by decide); rw [hu] at h; exact h
  have K3 : Hid (∀ w, Calls Try.prog 9 #[.int .i64 rest, .int .i64 4] w fun e w' => e = .returned (.int .i64 r) ∧ w' = w) := by intro w; have h := pick_any rest 4 w b3.1 b3.2 (by decide) (by decide); rw [hr] at h; exact h
  obtain ⟨n, hn⟩ : ∃ n : Nat, n = (4 * (1 + u) - r) := ⟨_, rfl⟩
  have hn1 : 1 ≤ n ∧ n ≤ 32 := by omega
  have HN : Hid ((4 * (1 + (u : Int)) - (r : Int)) = (n : Int)) := by show _ = _; omega
  have HWF : Hid (wfB 0 false sport dport n = true) := by show _ = _; simp [wfB]; omega
  clear hn ho hu hr b1 b2 b3
  go_enter Try.func3, Try.ntmps3
  go_wp2_with fail
  refine (K1.out _).mono ?_
  rintro e w1 ⟨rfl, rfl⟩
  go_wp2_with fail
  refine (K2.out _).mono ?_
  rintro e w1 ⟨rfl, rfl⟩
  go_wp2_with fail
  refine (K3.out _).mono ?_
  rintro e w1 ⟨rfl, rfl⟩
  go_wp2_with fail
  rw [HN.out]
  clear K1 K2 K3
  refine (packet_0 src dst id proto sport dport n false rest _ (by omega)).mono ?_
  rintro e w1 ⟨v1, rfl, ho1, hb1⟩
  obtain ⟨ao, cv, rfl, hh1, hl1, _, _, hnil⟩ := owns_any ho1
  clear ho1
  have HB1 : Hid (Below w.heap.size w w1) := ((Below.refl _ _).alloc (Nat.le_refl _) _).trans (hb1.mono (by simp))
  have HH1 := hide hh1
  clear hb1 hh1
  go_wp2_with fail
  refine (packed_yes src dst proto id 0 false sport dport ao n cv (fl rest n) _ hsrc0 hsrc hdst0 hdst hproto0 hproto hid0 hid (by omega) (by omega) hsport0 hsport hdport0 hdport hl1 hnil (HH1.out.below ((Below.refl _ _).alloc (Nat.le_refl _) _)) HWF.out).mono ?_
  rintro e w2 ⟨g, cb, rfl, ho2, hb2⟩
  have hwf' : wfB 0 false sport dport (fl rest n).length = true := by rw [hl1]; exact HWF.out
  obtain ⟨hup0, hupP⟩ := up_pk src dst proto id 0 false sport dport (fl rest n) hsrc0 hsrc hdst0 hdst hproto0 hproto hid0 hid (by omega) (by omega) hsport0 hsport hdport0 hdport hwf'
  have hby := pk_bytes src dst proto id 0 false sport dport (fl rest n) hsrc0 hsrc hdst0 hdst hproto0 hproto hid0 hid (by omega) (by omega) hsport0 hsport hdport0 hdport (by rw [hl1]; omega) (fl_bd rest n)
  have hLe : pkL src dst proto id 0 false sport dport (fl rest n) = hdL src dst proto id 0 false (fl rest n).length ++ ptL 0 sport dport ++ fl rest n := rfl
  have hLn : (pkL src dst proto id 0 false sport dport (fl rest n)).length = 16 + n := by rw [hLe]; simp [hdL, ptL, hl1]; omega
  have hLd : (pkL src dst proto id 0 false sport dport (fl rest n)).drop 16 = fl rest n := by rw [hLe]; simp [hdL, ptL]
  clear hLe hwf'
  generalize hL : pkL src dst proto id 0 false sport dport (fl rest n) = L at *
  clear hL
  rw [hLn] at ho2 ⊢
  obtain ⟨hh2, hl2, hc2, hm2⟩ := owns_has ho2
  have HH2 := hide hh2
  have HB2 : Hid (Below (w1.heap.size + 1) (w1.alloc (.cells #[.int .u16 src, .int .u16 dst, .int .u8 proto, .int .u16 id, .int .u8 0, .bool false, .int .u16 sport, .int .u16 dport, .slice ao n cv] 28)) w2) := hb2.mono (by simp)
  have HUP := hide (And.intro hup0 hupP)
  have HBY := hide hby
  have HL := hide (And.intro hLd (And.intro hc2 hm2))
  clear hup0 hupP hby hLd hc2 hm2 ho2 hb2 hh2 hLn
  go_wp2_with fail
  refine (funpack_any _ _ cb L w2 hl2 HL.out.2.1 HL.out.2.2 HH2.out HBY.out).mono ?_
  rintro e w3 ⟨hb3, h3⟩
  rcases h3 with ⟨_, v3, rfl, ho3⟩ | ⟨hbad, _⟩
  rotate_left
  · exact absurd HUP.out.1 hbad
  rw [HUP.out.2] at ho3 ⊢
  simp only at ho3 ⊢
  obtain ⟨ao3, cv3, rfl, hh3, _, _, _, _⟩ := owns_any ho3
  rw [hl1] at ho3 ⊢
  have hz12 : w1.heap.size < w2.heap.size := by have := HB2.out.size; simp at this; omega
  have HB3 : Hid (Below (w1.heap.size + 1) (w1.alloc (.cells #[.int .u16 src, .int .u16 dst, .int .u8 proto, .int .u16 id, .int .u8 0, .bool false, .int .u16 sport, .int .u16 dport, .slice ao n cv] 28)) w3) := HB2.out.trans (hb3.mono (by omega))
  have hz13 : w1.heap.size < w3.heap.size := by have := hb3.size; omega
  have cp := box_cell HB3.out
  have HHP : Hid (Has w3 ao (fl rest n)) := HH1.out.below (((Below.refl _ _).alloc (Nat.le_refl _) _).trans (HB3.out.mono (by omega)))
  have HH3 := hide hh3
  have HB23 := hide hb3
  clear ho3 hh3 hb3 HUP HBY
  go_wp2_with fail
  refine (same_true src dst proto id 0 false sport dport (fl rest n) ao ao3 n cv cv3 _ hl1 (HHP.out.below ((Below.refl _ _).alloc (Nat.le_refl _) _)) (HH3.out.below ((Below.refl _ _).alloc (Nat.le_refl _) _))).mono ?_
  rintro e w4 ⟨rfl, hb4⟩
  have HB4 : Hid (Below w3.heap.size w3 w4) := ((Below.refl _ _).alloc (Nat.le_refl _) _).trans (hb4.mono (by simp))
  have cp4 : w4.cell? ⟨w1.heap.size, 8, none⟩ = some (.slice ao n cv) := (HB4.out.cell (p := ⟨w1.heap.size, 8, none⟩) hz13).trans (by rw [cp 8]; rfl)
  have heq := fun wx => Lib.run_eql_slice_nil (P := Try.prog) wx 26 5 (some ⟨g, 0, none⟩) (16 + n) cb 0 0 Try.underlying26
  clear hb4 cp
  have HB24 : Hid (Below w2.heap.size w2 w4) := HB23.out.trans (HB4.out.mono HB23.out.size)
  have HHd : Hid (Has w4 (some ⟨g, 16, none⟩) (fl rest n)) := by
    have h := has_drop 16 (HH2.out.below HB24.out)
    rw [HL.out.1, Nat.zero_add] at h
    exact h
  have hcA : ∀ m, (convert 26 9 (.slice (some ⟨g, 16, none⟩) n (cb - 16))).run Try.prog (w4.drewN m) = .ok (.string (strOfNums (fl rest n))) (w4.drewN m) := by
    intro m
    have h := conv_has (w := w4.drewN m) (HHd.out.below (below_drewN (Below.refl _ _) m)) (cb - 16)
    rw [hl1] at h
    exact h
  have hcB : ∀ m, (convert 26 9 (.slice ao n cv)).run Try.prog (w4.drewN m) = .ok (.string (strOfNums (fl rest n))) (w4.drewN m) := by
    intro m
    have h := conv_has (w := w4.drewN m) (HHP.out.below (HB4.out.trans (below_drewN (Below.refl _ _) m))) cv
    rw [hl1] at h
    exact h
  have i1 : 16 < cb := by have := HL.out.2.1; omega
  have i2 : 16 + n ≤ cb := HL.out.2.1
  have i3 : cb ≤ 9223372036854775807 := by have := HL.out.2.2; unfold maxLen at this; omega
  have HBe : Hid (Below w.heap.size w w4) := HB1.out.trans ((((Below.refl w1.heap.size w1).alloc (Nat.le_refl _) _).trans ((HB3.out.trans (HB4.out.mono (by omega))).mono (by omega))).mono (by have := HB1.out.size; omega))
  clear HB1 HB2 HB3 HB4 HB23 HB24 HH1 HH2 HH3 HHP HHd HL HN HWF hz12 hz13 hnil
  go_wp2_with fail
  go_quiet (fail)
  go_wp2
  go_ret
  exact ⟨by simp, below_drewN HBe.out _⟩

set_option maxRecDepth 100000 in
set_option maxHeartbeats 1600000 in
theorem carried_1t (src dst id proto sport dport off units rest : Int) (u r o : Nat) (w : World) (hsrc0 : 0 ≤ src) (hsrc : src ≤ 65535) (hdst0 : 0 ≤ dst) (hdst : dst ≤ 65535) (hproto0 : 0 ≤ proto) (hproto : proto ≤ 255) (hid0 : 0 ≤ id) (hid : id ≤ 65535) (hsport0 : 0 ≤ sport) (hsport : sport ≤ 65535) (hdport0 : 0 ≤ dport) (hdport : dport ≤ 65535)
    (b1 : -9223372036854775808 ≤ off ∧ off ≤ 9223372036854775807) (b2 : -9223372036854775808 ≤ units ∧ units ≤ 9223372036854775807) (b3 : -9223372036854775808 ≤ rest ∧ rest ≤ 9223372036854775807)
    (ho : pk off 16 = (o : Int)) (hu : pk units 8 = u) (hr : pk rest 4 = r) (hu8 : u ≤ 7) (_hr4 : r ≤ 3) (ho0 : 0 < o) (ho15 : o ≤ 15) :
    Calls Try.prog 3 #[.agg #[.int .u16 src, .int .u16 dst, .int .u16 id, .int .u8 proto, .int .u16 sport, .int .u16 dport], .int .i64 off, .int .i64 units, .int .i64 rest, .bool true] w fun e w' => e = .returned (.bool true) ∧ Below w.heap.size w w' := by
  have K1 : Hid (∀ w, Calls Try.prog 9 #[.int .i64 off, .int .i64 16] w fun e w' => e = .returned (.int .i64 (o : Int)) ∧ w' = w) := by intro w; have h := pick_any off 16 w b1.1 b1.2 (by decide) (by decide); rw [ho] at h; exact h
  have K2 : Hid (∀ w, Calls Try.prog 9 #[.int .i64 units, .int .i64 8] w fun e w' => e = .returned (.int .i64 u) ∧ w' = w) := by intro w; have h := pick_any units 8 w b2.1 b2.2 (by decide) (by decide); rw [hu] at h; exact h
  have K3 : Hid (∀ w, Calls Try.prog 9 #[.int .i64 rest, .int .i64 4] w fun e w' => e = .returned (.int .i64 r) ∧ w' = w) := by intro w; have h := pick_any rest 4 w b3.1 b3.2 (by decide) (by decide); rw [hr] at h; exact h
  obtain ⟨n, hn⟩ : ∃ n : Nat, n = (4 * (1 + u)) := ⟨_, rfl⟩
  have hn1 : 1 ≤ n ∧ n ≤ 32 ∧ n % 4 = 0 := by omega
  have HN : Hid ((4 * (1 + (u : Int))) = (n : Int)) := by show _ = _; omega
  have h00 : ((o : Int) == 0) = false := by simp; omega
  have HWF : Hid (wfB (o : Int) true 0 0 n = true) := by show _ = _; simp [wfB]; omega
  clear hn ho hu hr b1 b2 b3
  go_enter Try.func3, Try.ntmps3
  go_wp2_with fail
  refine (K1.out _).mono ?_
  rintro e w1 ⟨rfl, rfl⟩
  go_wp2_with fail
  refine (K2.out _).mono ?_
  rintro e w1 ⟨rfl, rfl⟩
  go_wp2_with fail
  rw [HN.out]
  clear K1 K2 K3
  refine (packet_1 src dst id proto sport dport (o : Int) n true rest _ (by omega) (by omega) h00 (by omega)).mono ?_
  rintro e w1 ⟨v1, rfl, ho1, hb1⟩
  obtain ⟨ao, cv, rfl, hh1, hl1, _, _, hnil⟩ := owns_any ho1
  clear ho1
  have HB1 : Hid (Below w.heap.size w w1) := ((Below.refl _ _).alloc (Nat.le_refl _) _).trans (hb1.mono (by simp))
  have HH1 := hide hh1
  clear hb1 hh1
  go_wp2_with fail
  refine (packed_yes src dst proto id (o : Int) true 0 0 ao n cv (fl rest n) _ hsrc0 hsrc hdst0 hdst hproto0 hproto hid0 hid (by omega) (by omega) (by decide) (by decide) (by decide) (by decide) hl1 hnil (HH1.out.below ((Below.refl _ _).alloc (Nat.le_refl _) _)) HWF.out).mono ?_
  rintro e w2 ⟨g, cb, rfl, ho2, hb2⟩
  have hwf' : wfB (o : Int) true 0 0 (fl rest n).length = true := by rw [hl1]; exact HWF.out
  obtain ⟨hup0, hupP⟩ := up_pk src dst proto id (o : Int) true 0 0 (fl rest n) hsrc0 hsrc hdst0 hdst hproto0 hproto hid0 hid (by omega) (by omega) (by decide) (by decide) (by decide) (by decide) hwf'
  have hby := pk_bytes src dst proto id (o : Int) true 0 0 (fl rest n) hsrc0 hsrc hdst0 hdst hproto0 hproto hid0 hid (by omega) (by omega) (by decide) (by decide) (by decide) (by decide) (by rw [hl1]; omega) (fl_bd rest n)
  have hLe : pkL src dst proto id (o : Int) true 0 0 (fl rest n) = hdL src dst proto id (o : Int) true (fl rest n).length ++ ptL (o : Int) 0 0 ++ fl rest n := rfl
  have hLn : (pkL src dst proto id (o : Int) true 0 0 (fl rest n)).length = 12 + n := by rw [hLe]; simp [hdL, ptL, hl1, show ¬ o = 0 by omega]; omega
  have hLd : (pkL src dst proto id (o : Int) true 0 0 (fl rest n)).drop 12 = fl rest n := by rw [hLe]; simp [hdL, ptL, show ¬ o = 0 by omega]
  clear hLe hwf'
  generalize hL : pkL src dst proto id (o : Int) true 0 0 (fl rest n) = L at *
  clear hL
  rw [hLn] at ho2 ⊢
  obtain ⟨hh2, hl2, hc2, hm2⟩ := owns_has ho2
  have HH2 := hide hh2
  have HB2 : Hid (Below (w1.heap.size + 1) (w1.alloc (.cells #[.int .u16 src, .int .u16 dst, .int .u8 proto, .int .u16 id, .int .u8 (o : Int), .bool true, .int .u16 0, .int .u16 0, .slice ao n cv] 28)) w2) := hb2.mono (by simp)
  have HUP := hide (And.intro hup0 hupP)
  have HBY := hide hby
  have HL := hide (And.intro hLd (And.intro hc2 hm2))
  clear hup0 hupP hby hLd hc2 hm2 ho2 hb2 hh2 hLn
  go_wp2_with fail
  refine (funpack_any _ _ cb L w2 hl2 HL.out.2.1 HL.out.2.2 HH2.out HBY.out).mono ?_
  rintro e w3 ⟨hb3, h3⟩
  rcases h3 with ⟨_, v3, rfl, ho3⟩ | ⟨hbad, _⟩
  rotate_left
  · exact absurd HUP.out.1 hbad
  rw [HUP.out.2] at ho3 ⊢
  simp only at ho3 ⊢
  obtain ⟨ao3, cv3, rfl, hh3, _, _, _, _⟩ := owns_any ho3
  rw [hl1] at ho3 ⊢
  have hz12 : w1.heap.size < w2.heap.size := by have := HB2.out.size; simp at this; omega
  have HB3 : Hid (Below (w1.heap.size + 1) (w1.alloc (.cells #[.int .u16 src, .int .u16 dst, .int .u8 proto, .int .u16 id, .int .u8 (o : Int), .bool true, .int .u16 0, .int .u16 0, .slice ao n cv] 28)) w3) := HB2.out.trans (hb3.mono (by omega))
  have hz13 : w1.heap.size < w3.heap.size := by have := hb3.size; omega
  have cp := box_cell HB3.out
  have HHP : Hid (Has w3 ao (fl rest n)) := HH1.out.below (((Below.refl _ _).alloc (Nat.le_refl _) _).trans (HB3.out.mono (by omega)))
  have HH3 := hide hh3
  have HB23 := hide hb3
  clear ho3 hh3 hb3 HUP HBY
  go_wp2_with fail
  refine (same_true src dst proto id (o : Int) true 0 0 (fl rest n) ao ao3 n cv cv3 _ hl1 (HHP.out.below ((Below.refl _ _).alloc (Nat.le_refl _) _)) (HH3.out.below ((Below.refl _ _).alloc (Nat.le_refl _) _))).mono ?_
  rintro e w4 ⟨rfl, hb4⟩
  have HB4 : Hid (Below w3.heap.size w3 w4) := ((Below.refl _ _).alloc (Nat.le_refl _) _).trans (hb4.mono (by simp))
  have cp4 : w4.cell? ⟨w1.heap.size, 8, none⟩ = some (.slice ao n cv) := (HB4.out.cell (p := ⟨w1.heap.size, 8, none⟩) hz13).trans (by rw [cp 8]; rfl)
  have heq := fun wx => Lib.run_eql_slice_nil (P := Try.prog) wx 26 5 (some ⟨g, 0, none⟩) (12 + n) cb 0 0 Try.underlying26
  clear hb4 cp
  have HB24 : Hid (Below w2.heap.size w2 w4) := HB23.out.trans (HB4.out.mono HB23.out.size)
  have HHd : Hid (Has w4 (some ⟨g, 12, none⟩) (fl rest n)) := by
    have h := has_drop 12 (HH2.out.below HB24.out)
    rw [HL.out.1, Nat.zero_add] at h
    exact h
  have hcA : ∀ m, (convert 26 9 (.slice (some ⟨g, 12, none⟩) n (cb - 12))).run Try.prog (w4.drewN m) = .ok (.string (strOfNums (fl rest n))) (w4.drewN m) := by
    intro m
    have h := conv_has (w := w4.drewN m) (HHd.out.below (below_drewN (Below.refl _ _) m)) (cb - 12)
    rw [hl1] at h
    exact h
  have hcB : ∀ m, (convert 26 9 (.slice ao n cv)).run Try.prog (w4.drewN m) = .ok (.string (strOfNums (fl rest n))) (w4.drewN m) := by
    intro m
    have h := conv_has (w := w4.drewN m) (HHP.out.below (HB4.out.trans (below_drewN (Below.refl _ _) m))) cv
    rw [hl1] at h
    exact h
  have i1 : 12 < cb := by have := HL.out.2.1; omega
  have i2 : 12 + n ≤ cb := HL.out.2.1
  have i3 : cb ≤ 9223372036854775807 := by have := HL.out.2.2; unfold maxLen at this; omega
  have HBe : Hid (Below w.heap.size w w4) := HB1.out.trans ((((Below.refl w1.heap.size w1).alloc (Nat.le_refl _) _).trans ((HB3.out.trans (HB4.out.mono (by omega))).mono (by omega))).mono (by have := HB1.out.size; omega))
  clear HB1 HB2 HB3 HB4 HB23 HB24 HH1 HH2 HH3 HHP HHd HL HN HWF hz12 hz13 hnil
  go_wp2_with fail
  go_quiet (fail)
  go_wp2
  go_ret
  exact ⟨by simp, below_drewN HBe.out _⟩

set_option maxRecDepth 100000 in
set_option maxHeartbeats 1600000 in
theorem carried_1f (src dst id proto sport dport off units rest : Int) (u r o : Nat) (w : World) (hsrc0 : 0 ≤ src) (hsrc : src ≤ 65535) (hdst0 : 0 ≤ dst) (hdst : dst ≤ 65535) (hproto0 : 0 ≤ proto) (hproto : proto ≤ 255) (hid0 : 0 ≤ id) (hid : id ≤ 65535) (hsport0 : 0 ≤ sport) (hsport : sport ≤ 65535) (hdport0 : 0 ≤ dport) (hdport : dport ≤ 65535)
    (b1 : -9223372036854775808 ≤ off ∧ off ≤ 9223372036854775807) (b2 : -9223372036854775808 ≤ units ∧ units ≤ 9223372036854775807) (b3 : -9223372036854775808 ≤ rest ∧ rest ≤ 9223372036854775807)
    (ho : pk off 16 = (o : Int)) (hu : pk units 8 = u) (hr : pk rest 4 = r) (hu8 : u ≤ 7) (hr4 : r ≤ 3) (ho0 : 0 < o) (ho15 : o ≤ 15) :
    Calls Try.prog 3 #[.agg #[.int .u16 src, .int .u16 dst, .int .u16 id, .int .u8 proto, .int .u16 sport, .int .u16 dport], .int .i64 off, .int .i64 units, .int .i64 rest, .bool false] w fun e w' => e = .returned (.bool true) ∧ Below w.heap.size w w' := by
  have K1 : Hid (∀ w, Calls Try.prog 9 #[.int .i64 off, .int .i64 16] w fun e w' => e = .returned (.int .i64 (o : Int)) ∧ w' = w) := by intro w; have h := pick_any off 16 w b1.1 b1.2 (by decide) (by decide); rw [ho] at h; exact h
  have K2 : Hid (∀ w, Calls Try.prog 9 #[.int .i64 units, .int .i64 8] w fun e w' => e = .returned (.int .i64 u) ∧ w' = w) := by intro w; have h := pick_any units 8 w b2.1 b2.2 (by decide) (by decide); rw [hu] at h; exact h
  have K3 : Hid (∀ w, Calls Try.prog 9 #[.int .i64 rest, .int .i64 4] w fun e w' => e = .returned (.int .i64 r) ∧ w' = w) := by intro w; have h := pick_any rest 4 w b3.1 b3.2 (by decide) (by decide); rw [hr] at h; exact h
  obtain ⟨n, hn⟩ : ∃ n : Nat, n = (4 * (1 + u) - r) := ⟨_, rfl⟩
  have hn1 : 1 ≤ n ∧ n ≤ 32 := by omega
  have HN : Hid ((4 * (1 + (u : Int)) - (r : Int)) = (n : Int)) := by show _ = _; omega
  have h00 : ((o : Int) == 0) = false := by simp; omega
  have HWF : Hid (wfB (o : Int) false 0 0 n = true) := by show _ = _; simp [wfB]; omega
  clear hn ho hu hr b1 b2 b3
  go_enter Try.func3, Try.ntmps3
  go_wp2_with fail
  refine (K1.out _).mono ?_
  rintro e w1 ⟨rfl, rfl⟩
  go_wp2_with fail
  refine (K2.out _).mono ?_
  rintro e w1 ⟨rfl, rfl⟩
  go_wp2_with fail
  refine (K3.out _).mono ?_
  rintro e w1 ⟨rfl, rfl⟩
  go_wp2_with fail
  rw [HN.out]
  clear K1 K2 K3
  refine (packet_1 src dst id proto sport dport (o : Int) n false rest _ (by omega) (by omega) h00 (by omega)).mono ?_
  rintro e w1 ⟨v1, rfl, ho1, hb1⟩
  obtain ⟨ao, cv, rfl, hh1, hl1, _, _, hnil⟩ := owns_any ho1
  clear ho1
  have HB1 : Hid (Below w.heap.size w w1) := ((Below.refl _ _).alloc (Nat.le_refl _) _).trans (hb1.mono (by simp))
  have HH1 := hide hh1
  clear hb1 hh1
  go_wp2_with fail
  refine (packed_yes src dst proto id (o : Int) false 0 0 ao n cv (fl rest n) _ hsrc0 hsrc hdst0 hdst hproto0 hproto hid0 hid (by omega) (by omega) (by decide) (by decide) (by decide) (by decide) hl1 hnil (HH1.out.below ((Below.refl _ _).alloc (Nat.le_refl _) _)) HWF.out).mono ?_
  rintro e w2 ⟨g, cb, rfl, ho2, hb2⟩
  have hwf' : wfB (o : Int) false 0 0 (fl rest n).length = true := by rw [hl1]; exact HWF.out
  obtain ⟨hup0, hupP⟩ := up_pk src dst proto id (o : Int) false 0 0 (fl rest n) hsrc0 hsrc hdst0 hdst hproto0 hproto hid0 hid (by omega) (by omega) (by decide) (by decide) (by decide) (by decide) hwf'
  have hby := pk_bytes src dst proto id (o : Int) false 0 0 (fl rest n) hsrc0 hsrc hdst0 hdst hproto0 hproto hid0 hid (by omega) (by omega) (by decide) (by decide) (by decide) (by decide) (by rw [hl1]; omega) (fl_bd rest n)
  have hLe : pkL src dst proto id (o : Int) false 0 0 (fl rest n) = hdL src dst proto id (o : Int) false (fl rest n).length ++ ptL (o : Int) 0 0 ++ fl rest n := rfl
  have hLn : (pkL src dst proto id (o : Int) false 0 0 (fl rest n)).length = 12 + n := by rw [hLe]; simp [hdL, ptL, hl1, show ¬ o = 0 by omega]; omega
  have hLd : (pkL src dst proto id (o : Int) false 0 0 (fl rest n)).drop 12 = fl rest n := by rw [hLe]; simp [hdL, ptL, show ¬ o = 0 by omega]
  clear hLe hwf'
  generalize hL : pkL src dst proto id (o : Int) false 0 0 (fl rest n) = L at *
  clear hL
  rw [hLn] at ho2 ⊢
  obtain ⟨hh2, hl2, hc2, hm2⟩ := owns_has ho2
  have HH2 := hide hh2
  have HB2 : Hid (Below (w1.heap.size + 1) (w1.alloc (.cells #[.int .u16 src, .int .u16 dst, .int .u8 proto, .int .u16 id, .int .u8 (o : Int), .bool false, .int .u16 0, .int .u16 0, .slice ao n cv] 28)) w2) := hb2.mono (by simp)
  have HUP := hide (And.intro hup0 hupP)
  have HBY := hide hby
  have HL := hide (And.intro hLd (And.intro hc2 hm2))
  clear hup0 hupP hby hLd hc2 hm2 ho2 hb2 hh2 hLn
  go_wp2_with fail
  refine (funpack_any _ _ cb L w2 hl2 HL.out.2.1 HL.out.2.2 HH2.out HBY.out).mono ?_
  rintro e w3 ⟨hb3, h3⟩
  rcases h3 with ⟨_, v3, rfl, ho3⟩ | ⟨hbad, _⟩
  rotate_left
  · exact absurd HUP.out.1 hbad
  rw [HUP.out.2] at ho3 ⊢
  simp only at ho3 ⊢
  obtain ⟨ao3, cv3, rfl, hh3, _, _, _, _⟩ := owns_any ho3
  rw [hl1] at ho3 ⊢
  have hz12 : w1.heap.size < w2.heap.size := by have := HB2.out.size; simp at this; omega
  have HB3 : Hid (Below (w1.heap.size + 1) (w1.alloc (.cells #[.int .u16 src, .int .u16 dst, .int .u8 proto, .int .u16 id, .int .u8 (o : Int), .bool false, .int .u16 0, .int .u16 0, .slice ao n cv] 28)) w3) := HB2.out.trans (hb3.mono (by omega))
  have hz13 : w1.heap.size < w3.heap.size := by have := hb3.size; omega
  have cp := box_cell HB3.out
  have HHP : Hid (Has w3 ao (fl rest n)) := HH1.out.below (((Below.refl _ _).alloc (Nat.le_refl _) _).trans (HB3.out.mono (by omega)))
  have HH3 := hide hh3
  have HB23 := hide hb3
  clear ho3 hh3 hb3 HUP HBY
  go_wp2_with fail
  refine (same_true src dst proto id (o : Int) false 0 0 (fl rest n) ao ao3 n cv cv3 _ hl1 (HHP.out.below ((Below.refl _ _).alloc (Nat.le_refl _) _)) (HH3.out.below ((Below.refl _ _).alloc (Nat.le_refl _) _))).mono ?_
  rintro e w4 ⟨rfl, hb4⟩
  have HB4 : Hid (Below w3.heap.size w3 w4) := ((Below.refl _ _).alloc (Nat.le_refl _) _).trans (hb4.mono (by simp))
  have cp4 : w4.cell? ⟨w1.heap.size, 8, none⟩ = some (.slice ao n cv) := (HB4.out.cell (p := ⟨w1.heap.size, 8, none⟩) hz13).trans (by rw [cp 8]; rfl)
  have heq := fun wx => Lib.run_eql_slice_nil (P := Try.prog) wx 26 5 (some ⟨g, 0, none⟩) (12 + n) cb 0 0 Try.underlying26
  clear hb4 cp
  have HB24 : Hid (Below w2.heap.size w2 w4) := HB23.out.trans (HB4.out.mono HB23.out.size)
  have HHd : Hid (Has w4 (some ⟨g, 12, none⟩) (fl rest n)) := by
    have h := has_drop 12 (HH2.out.below HB24.out)
    rw [HL.out.1, Nat.zero_add] at h
    exact h
  have hcA : ∀ m, (convert 26 9 (.slice (some ⟨g, 12, none⟩) n (cb - 12))).run Try.prog (w4.drewN m) = .ok (.string (strOfNums (fl rest n))) (w4.drewN m) := by
    intro m
    have h := conv_has (w := w4.drewN m) (HHd.out.below (below_drewN (Below.refl _ _) m)) (cb - 12)
    rw [hl1] at h
    exact h
  have hcB : ∀ m, (convert 26 9 (.slice ao n cv)).run Try.prog (w4.drewN m) = .ok (.string (strOfNums (fl rest n))) (w4.drewN m) := by
    intro m
    have h := conv_has (w := w4.drewN m) (HHP.out.below (HB4.out.trans (below_drewN (Below.refl _ _) m))) cv
    rw [hl1] at h
    exact h
  have i1 : 12 < cb := by have := HL.out.2.1; omega
  have i2 : 12 + n ≤ cb := HL.out.2.1
  have i3 : cb ≤ 9223372036854775807 := by have := HL.out.2.2; unfold maxLen at this; omega
  have HBe : Hid (Below w.heap.size w w4) := HB1.out.trans ((((Below.refl w1.heap.size w1).alloc (Nat.le_refl _) _).trans ((HB3.out.trans (HB4.out.mono (by omega))).mono (by omega))).mono (by have := HB1.out.size; omega))
  clear HB1 HB2 HB3 HB4 HB23 HB24 HH1 HH2 HH3 HHP HHd HL HN HWF hz12 hz13 hnil
  go_wp2_with fail
  go_quiet (fail)
  go_wp2
  go_ret
  exact ⟨by simp, below_drewN HBe.out _⟩

end Go.Proofs.Ytajphdppmdoalaa
