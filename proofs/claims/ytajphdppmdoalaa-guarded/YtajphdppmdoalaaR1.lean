import Derived.Test.YtajphdppmdoalaaR0
namespace Go.Proofs.Ytajphdppmdoalaa
open Go.RowKit
set_option linter.unusedVariables false

set_option maxRecDepth 100000 in
set_option maxHeartbeats 3200000 in
theorem guarded_0t (src dst id proto sport dport off units bit : Int) (u k : Nat) (w : World) (hsrc0 : 0 ≤ src) (hsrc : src ≤ 65535) (hdst0 : 0 ≤ dst) (hdst : dst ≤ 65535) (hproto0 : 0 ≤ proto) (hproto : proto ≤ 255) (hid0 : 0 ≤ id) (hid : id ≤ 65535) (hsport0 : 0 ≤ sport) (hsport : sport ≤ 65535) (hdport0 : 0 ≤ dport) (hdport : dport ≤ 65535)
    (b1 : -9223372036854775808 ≤ off ∧ off ≤ 9223372036854775807) (b2 : -9223372036854775808 ≤ units ∧ units ≤ 9223372036854775807) (b3 : -9223372036854775808 ≤ bit ∧ bit ≤ 9223372036854775807)
    (ho : pk off 16 = 0) (hu : pk units 8 = u) (hk : pk bit 96 = k) (hu8 : u ≤ 7) (hk96 : k < 96) :
    Calls Try.prog 4 #[.agg #[.int .u16 src, .int .u16 dst, .int .u16 id, .int .u8 proto, .int .u16 sport, .int .u16 dport], .int .i64 off, .int .i64 units, .int .i64 bit, .bool true] w fun e w' => e = .returned (.bool true) ∧ Below w.heap.size w w' := by
  have K1 : Hid (∀ w, Calls Try.prog 9 #[.int .i64 off, .int .i64 16] w fun e w' => e = .returned (.int .i64 0) ∧ w' = w) := by intro w; have h := pick_any off 16 w b1.1 b1.2 (by decide) (by decide); rw [ho] at h; exact h
  have K2 : Hid (∀ w, Calls Try.prog 9 #[.int .i64 units, .int .i64 8] w fun e w' => e = .returned (.int .i64 u) ∧ w' = w) := by intro w; have h := pick_any units 8 w b2.1 b2.2 (by decide) (by decide); rw [hu] at h; exact h
  have K3 : Hid (∀ w, Calls Try.prog 9 #[.int .i64 bit, .int .i64 96] w fun e w' => e = .returned (.int .i64 k) ∧ w' = w) := by intro w; have h := pick_any bit 96 w b3.1 b3.2 (by decide) (by decide); rw [hk] at h; exact h
  obtain ⟨n, hn⟩ : ∃ n : Nat, n = 4 * (1 + u) := ⟨_, rfl⟩
  have hn1 : 1 ≤ n ∧ n ≤ 32 ∧ n % 4 = 0 := by omega
  have hw1 : IntKind.i64.wrap (1 + (u : Int)) = 1 + (u : Int) := by rw [IntKind.wrap_i64]; omega
  have hw2 : IntKind.i64.wrap (4 * (1 + (u : Int))) = (n : Int) := by rw [IntKind.wrap_i64]; omega
  have HWF : Hid (wfB 0 true sport dport n = true) := by show _ = _; simp [wfB]; omega
  clear hn ho hu hk b1 b2
  obtain ⟨i5, hi, hz5, hz6, hz7⟩ := info_parts Try.info5
  have HI := hide (And.intro hi (And.intro hz5 (And.intro hz6 hz7)))
  clear hi hz5 hz6 hz7
  go_enter Try.func4, Try.ntmps4
  go_wp2_with fail
  refine (K1.out _).mono ?_
  rintro e w1 ⟨rfl, rfl⟩
  clear K1
  go_upto_region 2 with (fail)
  go_cut [12] (fun t wz => ∃ (pb : Nat) (ao : Option Addr) (cv : Nat), t = .pointer (some ⟨pb, 0, none⟩) ∧ Hid (w.heap.size < pb) ∧ Hid (wz.heap[pb]? = some (.cells #[.int .u16 src, .int .u16 dst, .int .u8 proto, .int .u16 id, .int .u8 0, .bool true, .int .u16 sport, .int .u16 dport, .slice ao n cv] 28 (0, 0))) ∧ Hid (Has wz ao (fl bit n)) ∧ Hid (ao = none → cv = 0) ∧ Hid (Below w.heap.size w wz))
  case first =>
    go_region_held3 (fun w' => w'.cell? ⟨w.heap.size, 0, none⟩ = some (.int .u16 src) ∧ w'.cell? ⟨w.heap.size, 1, none⟩ = some (.int .u16 dst) ∧ w'.cell? ⟨w.heap.size, 2, none⟩ = some (.int .u16 id) ∧ w'.cell? ⟨w.heap.size, 3, none⟩ = some (.int .u8 proto) ∧ w'.cell? ⟨w.heap.size, 4, none⟩ = some (.int .u16 sport) ∧ w'.cell? ⟨w.heap.size, 5, none⟩ = some (.int .u16 dport)) (go_keep) (first | (go_at_call 9; refine (K2.out _).mono ?_; rintro e w' ⟨rfl, rfl⟩) | (go_at_call 10; refine (packet_0 src dst id proto sport dport n true bit _ (by omega)).mono ?_; rintro e w1 ⟨v1, rfl, ho1, hb1⟩; obtain ⟨ao, cv, rfl, hh1, hl1, _, _, hnil⟩ := owns_any ho1; have HK := hide (And.intro ho1 hb1); have hcl := fun j => hb1.cell (p := ⟨w.heap.size, j, none⟩) (by simp <;> omega); have hc2 := fun j (h : w.heap.size + 1 < _) => hb1.cell (p := ⟨w.heap.size + 1, j, none⟩) h; have hf2 := fun j (h : w.heap.size + 1 < _) => hb1.frozen (p := ⟨w.heap.size + 1, j, none⟩) h; have hzz : w.heap.size < w1.heap.size := Nat.lt_of_lt_of_le (by simp <;> omega) hb1.size; clear ho1 hh1 hl1 hnil hb1))
    all_goals (go_wp2_with fail; go_meet)
    all_goals go_light
    · obtain ⟨h1, _, h3⟩ := owns_has2 HK.out.1
      exact ⟨_, ao, cv, rfl, hzz, heap_alloc_new _ _, h1.below ((Below.refl _ _).alloc (Nat.le_refl _) _), h3, Below.alloc (Below.trans ((Below.refl _ _).alloc (Nat.le_refl _) _).drew (Below.mono HK.out.2 (by simp))) (Nat.le_of_lt hzz) _⟩
    all_goals
      have h0 : w1.heap[w.heap.size + 1]? = some (.cells #[.int .u16 0, .int .u16 0, .int .u8 0, .int .u16 0, .int .u8 0, .bool false, .int .u16 0, .int .u16 0, .slice none 0 0] 28 (0, 0)) := (HK.out.2.block (w.heap.size + 1) (by simp)).trans (by have h := heap_alloc_new (w.alloc (.cells #[.int .u16 src, .int .u16 dst, .int .u16 id, .int .u8 proto, .int .u16 sport, .int .u16 dport] 24)) (.cells #[.int .u16 0, .int .u16 0, .int .u8 0, .int .u16 0, .int .u8 0, .bool false, .int .u16 0, .int .u16 0, .slice none 0 0] 28); rw [World.size_alloc] at h; exact h)
      obtain ⟨h1, _, h3⟩ := owns_has2 (owns_store9 HK.out.1 (g := w.heap.size + 1) (by simp) _ _ _ _ _ _ _ _ _)
      exact ⟨_, ao, cv, rfl, Nat.lt_succ_self _, store9 h0 _ _ _ _ _ _ _ _ _, h1, h3, below_store9 (Below.trans (((Below.refl _ _).alloc (Nat.le_refl _) _).alloc (by simp) _).drew (Below.mono HK.out.2 (by simp <;> omega))) (by simp) _ _ _ _ _ _ _ _ _⟩
  case rest =>
    obtain ⟨pb, ao, cv, rfl, HPB, HP, HH1, HNIL, HB1⟩ := hcut
    have hpz : pb < wc.heap.size := lt_of_block HP.out
    have cp := arr_cell HP.out
    clear K2 hw1 hw2
    have hl1 := fl_length bit n
    have hfl : fl bit n ≠ [] := by intro h; rw [h] at hl1; simp at hl1; omega
    have hwf' : wfB 0 true sport dport (fl bit n).length = true := by rw [hl1]; exact HWF.out
    obtain ⟨hup0, hupP⟩ := up_pk src dst proto id 0 true sport dport (fl bit n) hsrc0 hsrc hdst0 hdst hproto0 hproto hid0 hid (by omega) (by omega) hsport0 hsport hdport0 hdport hwf'
    have hby := pk_bytes src dst proto id 0 true sport dport (fl bit n) hsrc0 hsrc hdst0 hdst hproto0 hproto hid0 hid (by omega) (by omega) hsport0 hsport hdport0 hdport (by rw [hl1]; omega) (fl_bd bit n)
    have hless := up_less src dst proto id 0 true sport dport (fl bit n) hfl
    have hmore := up_more src dst proto id 0 true sport dport (fl bit n) (bit % 256)
    have hflip := up_flip src dst proto id 0 true sport dport (fl bit n) hsrc0 hsrc hdst0 hdst hproto0 hproto hid0 hid (by omega) (by omega) (by rw [hl1]; omega)
    have hLe : pkL src dst proto id 0 true sport dport (fl bit n) = hdL src dst proto id 0 true (fl bit n).length ++ ptL 0 sport dport ++ fl bit n := rfl
    have hLn : (pkL src dst proto id 0 true sport dport (fl bit n)).length = 16 + n := by rw [hLe]; simp [hdL, ptL, hl1]; omega
    have HPK := hide (packed_yes src dst proto id 0 true sport dport ao n cv (fl bit n) wc hsrc0 hsrc hdst0 hdst hproto0 hproto hid0 hid (by omega) (by omega) hsport0 hsport hdport0 hdport hl1 HNIL.out HH1.out HWF.out)
    clear hLe hwf' hfl HWF HNIL
    generalize hL : pkL src dst proto id 0 true sport dport (fl bit n) = L at *
    clear hL
    obtain ⟨N, hN⟩ : ∃ N, N = 16 + n := ⟨_, rfl⟩
    rw [← hN] at hLn
    have hN1 : 16 ≤ N ∧ N ≤ 48 := by omega
    rw [hLn] at hless HPK
    have HUP := hide (And.intro hup0 hupP)
    have HBY := hide hby
    have HLESS := hide hless
    have HMORE := hide hmore
    have HFLIP := hide hflip
    have HLN := hide hLn
    have HL1 := hide hl1
    clear hup0 hupP hby hless hmore hflip hLn hN hl1 hsrc0 hsrc hdst0 hdst hproto0 hproto hid0 hid hsport0 hsport hdport0 hdport b3
    go_wp2_with fail
    refine HPK.out.mono ?_
    rintro e w2 ⟨g, cb, rfl, ho2, hb2⟩
    have hgb : wc.heap.size ≤ g := by
      have := (ho2.lt g rfl).1
      exact this
    obtain ⟨hh2, _, hc2, hm2⟩ := owns_has ho2
    obtain ⟨cur, hcur, hcz⟩ := owns_row ho2 HLN.out
    have hgz : g < w2.heap.size := lt_of_block hcur
    have HH2 := hide hh2
    have HB2 := hide hb2
    have HCUR := hide hcur
    have HCZ := hide hcz
    have HCB := hide (And.intro hc2 hm2)
    have heq := fun wx => Lib.run_eql_slice_nil (P := Try.prog) wx 26 5 (some ⟨g, 0, none⟩) N cb 0 0 Try.underlying26
    have i1 : N ≤ cb := hc2
    have i2 : cb ≤ 9223372036854775807 := by unfold maxLen at hm2; omega
    clear ho2 hb2 hh2 hcur hcz hc2 hm2 HPK cp
    go_wp2_with fail
    refine (funpack_any _ _ cb (L.take (N - 1)) w2 (by rw [List.length_take, HLN.out]; omega) (by omega) HCB.out.2 (has_take (N - 1) HH2.out) (fun z hz => HBY.out z (List.mem_of_mem_take hz))).mono ?_
    intro e w3 h3
    obtain ⟨rfl, hb3⟩ := UpPost.err h3 HLESS.out (by decide)
    have HB3 := hide hb3
    have hz3 : w2.heap.size ≤ w3.heap.size := hb3.size
    have HA : Hid (∀ O j u, (L.map (Value.int .u8))[j]? = some u → (w3.alloc O).cell? ((⟨g, 0, none⟩ : Addr).add j) = some u) := fun O => Has.cells (HH2.out.below (HB3.out.trans ((Below.refl _ _).alloc hz3 _)))
    clear h3 hb3 heq i1 i2 HLESS
    obtain ⟨hi, hz5, hz6, hz7⟩ := HI.out
    go_wp2_with (at_builtin; refine wpList_append_own _ rfl (.tmp 50) (.tmp 51) 26 rfl (w3.heap.size + 1) 5 i5 (.int .u8 0) 1 1 Try.underlying26 hi hz5 hz6 hz7 rfl (by decide) _ _ _ rfl (World.ownsRow_nil _ _ _ _) ⟨g, 0, none⟩ N cb (L.map (Value.int .u8)) rfl (by simp [HLN.out]) (HA.out _) (ints_oneCell _ _) (by unfold maxLen; omega) (by omega) (by simp) ?_)
    intro v5 w5 hown hgrow hiff
    have HO5 := hide hown
    have HB5 : Hid (Below (w3.heap.size + 1) _ w5) := (Below.refl _ _).grown hgrow (by simp) (by simp [Value.ownBlock])
    have hz5a : w3.heap.size + 1 ≤ w5.heap.size := by have := HB5.out.size; simpa using this
    clear hown hgrow hiff HA
    go_wp2_with (at_builtin; refine wpList_append_own _ rfl (.tmp 53) (.tmp 56) 26 rfl (w3.heap.size + 1) 5 i5 (.int .u8 0) 1 1 Try.underlying26 hi hz5 hz6 hz7 rfl (by decide) _ _ _ rfl (HO5.out.alloc _) ⟨w5.heap.size, 0, none⟩ 1 1 [.int .u8 (bit % 256)] rfl rfl (cell_one_new _ _ _) (by simp [Value.oneCell']) (by unfold maxLen; omega) (by omega) (by simp; omega) ?_)
    intro v6 w6 hown hgrow hiff
    obtain ⟨ao6, cv6, rfl, hh6, hl6, hc6, hm6, _⟩ := owns_any (zs := L ++ [bit % 256]) (by simpa using hown)
    have HB36 : Hid (Below w3.heap.size w3 w6) := ((Below.refl _ _).alloc (Nat.le_refl _) _).trans (((HB5.out.alloc hz5a _).grown hgrow (by simp; omega) (fun q hq => (HO5.out.lt q hq).1)).mono (by omega))
    have HH6 := hide hh6
    have HC6 := hide (And.intro hl6 (And.intro hc6 hm6))
    clear hown hgrow hiff hh6 hl6 hc6 hm6 HO5 HB5 hz5a hi hz5 hz6 hz7
    go_wp2_with fail
    refine (funpack_any ao6 (N + 1) cv6 (L ++ [bit % 256]) w6 HC6.out.1 HC6.out.2.1 HC6.out.2.2 HH6.out (fun z hz => by rcases List.mem_append.1 hz with hz | hz; exact HBY.out z hz; simp at hz; omega)).mono ?_
    intro e w7 h7
    obtain ⟨rfl, hb7⟩ := UpPost.err h7 HMORE.out (by decide)
    have HB27 : Hid (Below w2.heap.size w2 w7) := (HB3.out.trans (HB36.out.mono hz3)).trans (hb7.mono (by have := HB36.out.size; omega))
    have hz7 : w2.heap.size ≤ w7.heap.size := HB27.out.size
    clear h7 hb7 HMORE HH6 HC6 HB3 HB36
    go_wp2_with fail
    refine (K3.out _).mono ?_
    rintro e w8 ⟨rfl, rfl⟩
    clear K3
    have hk8 : k / 8 < L.length := by have := HLN.out; omega
    obtain ⟨z, hz⟩ : ∃ z, z = L.getD (k / 8) 0 := ⟨_, rfl⟩
    have hzb : 0 ≤ z ∧ z ≤ 255 := by rw [hz, List.getD_eq_getElem?_getD, List.getElem?_eq_getElem hk8]; exact HBY.out _ (List.getElem_mem _)
    have HG7 : Hid (∀ O, (w7.alloc O).heap[g]? = some (.cells cur 5 (0, 0))) := fun O => (Below.heap_alloc _ _ _ (by omega)).trans ((HB27.out.block g hgz).trans HCUR.out)
    have e0 : ∀ O, (w7.alloc O).cell? ⟨g, k / 8, none⟩ = some (.int .u8 z) := fun O => by rw [arr_cell (HG7.out O), HCZ.out _ hk8, hz]
    have f0 : ∀ O, (w7.alloc O).frozen? ⟨g, k / 8, none⟩ = false := fun O => arr_frozen (HG7.out O) _
    have HZ := hide hz
    have HK8 := hide hk8
    clear hz hk8
    have j1 : (0 : Int) ≤ (k : Int) / 8 := by omega
    have j2 : (k : Int) / 8 < (N : Int) := by omega
    have j3 : k / 8 < N := by omega
    go_upto_region 12 with (fail)
    have hy : 1 ≤ (2 : Int) ^ (k % 8) % 256 ∧ (2 : Int) ^ (k % 8) % 256 ≤ 255 := pow_bd (k % 8) (by omega)
    obtain ⟨hx0, hx1, hxz, hxx⟩ := xor_facts z _ hzb.1 hzb.2 hy.1 hy.2
    go_region
    generalize hxe : bits BinOp.xor IntKind.u8 z (2 ^ (k % 8) % 256) = x at *
    have HX := hide (And.intro hx0 (And.intro hx1 hxz))
    clear hxe hx0 hx1 hxz hy e0 f0
    generalize hW8 : ((w7.alloc (.cells #[.int .u16 0, .int .u16 0, .int .u8 0, .int .u16 0, .int .u8 0, .bool false, .int .u16 0, .int .u16 0, .slice none 0 0] 28)).setCell ⟨g, k / 8, none⟩ (.int .u8 x)).drew = w8
    have HG8 : Hid (w8.heap[g]? = some (.cells (cur.setIfInBounds (k / 8) (.int .u8 x)) 5 (0, 0))) := by rw [← hW8]; exact row_setCell (HG7.out _) _
    have HBc8 : Hid (Below wc.heap.size wc w8) := by rw [← hW8]; exact ((((HB2.out.trans (HB27.out.mono HB2.out.size)).alloc (Nat.le_trans HB2.out.size hz7) _).setCell hgb _).drew)
    have hz8 : g < w8.heap.size := lt_of_block HG8.out
    clear hW8 HG7 HB27 HB2 HH2 HCUR hz7 hgz hz3
    have HC8 : Hid (∀ j, j < (L.set (k / 8) x).length → (cur.setIfInBounds (k / 8) (.int .u8 x))[j]? = some (.int .u8 ((L.set (k / 8) x).getD j 0))) := set_row HCZ.out HK8.out x
    have HBYx : Hid (∀ q ∈ L.set (k / 8) x, 0 ≤ q ∧ q ≤ 255) := by
      intro q hq
      rcases List.mem_or_eq_of_mem_set hq with h | h
      · exact HBY.out q h
      · subst h; exact ⟨HX.out.1, HX.out.2.1⟩
    have HNEc : Hid (upC (L.set (k / 8) x) ≠ 0) := HFLIP.out (k / 8) (by omega) x HX.out.1 HX.out.2.1 (by rw [← HZ.out]; exact HX.out.2.2)
    clear HFLIP
    go_wp2_with fail
    refine (funpack_any _ N cb (L.set (k / 8) x) w8 (by rw [List.length_set]; exact HLN.out) HCB.out.1 HCB.out.2 (has_of_row HG8.out HC8.out) HBYx.out).mono ?_
    intro e w9 h9
    obtain ⟨rfl, hb9⟩ := UpPost.err h9 rfl HNEc.out
    generalize upC (L.set (k / 8) x) = c at *
    have hcne : (c != 0) = true := by simpa using HNEc.out
    have HB89 := hide hb9
    have hz9 : w8.heap.size ≤ w9.heap.size := hb9.size
    clear h9 hb9 HNEc HBYx HC8
    go_wp2_with fail
    refine (same_true 0 0 0 0 0 false 0 0 [] none none 0 0 0 _ rfl ⟨fun _ => rfl, fun h => absurd rfl h⟩ ⟨fun _ => rfl, fun h => absurd rfl h⟩).mono ?_
    rintro e w10 ⟨rfl, hb10⟩
    have HB810 : Hid (Below w8.heap.size w8 w10) := (HB89.out.trans ((Below.refl _ _).alloc hz9 _)).trans (hb10.mono (by simp; omega))
    have hz10 : w8.heap.size ≤ w10.heap.size := HB810.out.size
    have HG10 : Hid (w10.heap[g]? = some (.cells (cur.setIfInBounds (k / 8) (.int .u8 x)) 5 (0, 0))) := (HB810.out.block g hz8).trans HG8.out
    have e0 : w10.cell? ⟨g, k / 8, none⟩ = some (.int .u8 x) := by
      rw [arr_cell HG10.out, Array.getElem?_setIfInBounds_self_of_lt]
      have := HCZ.out _ HK8.out
      exact (Array.getElem?_eq_some_iff.1 this).1
    have f0 : w10.frozen? ⟨g, k / 8, none⟩ = false := arr_frozen HG10.out _
    clear hb10 HB89 hz9
    go_upto_region 15 with (fail)
    go_region
    clear e0 f0
    try rw [hxx]
    generalize hW11 : (w10.setCell ⟨g, k / 8, none⟩ (.int .u8 z)).drew = w11
    have HG11 : Hid (w11.heap[g]? = some (.cells ((cur.setIfInBounds (k / 8) (.int .u8 x)).setIfInBounds (k / 8) (.int .u8 z)) 5 (0, 0))) := by rw [← hW11]; exact row_setCell HG10.out _
    have HBc11 : Hid (Below wc.heap.size wc w11) := by rw [← hW11]; exact (((HBc8.out.trans (HB810.out.mono HBc8.out.size)).setCell hgb _).drew)
    clear hW11 HG8 HG10 HBc8 HB810 hz8 hz10 hxx
    have HC11 : Hid (∀ j, j < L.length → ((cur.setIfInBounds (k / 8) (.int .u8 x)).setIfInBounds (k / 8) (.int .u8 z))[j]? = some (.int .u8 (L.getD j 0))) := by
      have h1 := set_row (set_row HCZ.out HK8.out x) (by rw [List.length_set]; exact HK8.out) z
      rw [List.set_set, HZ.out, set_getD L _ HK8.out] at h1
      rw [HZ.out]
      exact h1
    go_wp2_with fail
    refine (funpack_any _ N cb L w11 HLN.out HCB.out.1 HCB.out.2 (has_of_row HG11.out HC11.out) HBY.out).mono ?_
    rintro e w12 ⟨hb12, h12⟩
    rcases h12 with ⟨_, v3, rfl, ho3⟩ | ⟨hbad, _⟩
    rotate_left
    · exact absurd HUP.out.1 hbad
    rw [HUP.out.2] at ho3 ⊢
    simp only at ho3 ⊢
    obtain ⟨ao3, cv3, rfl, hh3, _, _, _, _⟩ := owns_any ho3
    rw [HL1.out] at ho3 ⊢
    have HB12 : Hid (Below wc.heap.size wc w12) := HBc11.out.trans (hb12.mono HBc11.out.size)
    have HHP : Hid (Has w12 ao (fl bit n)) := HH1.out.below HB12.out
    have HH3 := hide hh3
    have cp : ∀ j, w12.cell? ⟨pb, j, none⟩ = #[.int .u16 src, .int .u16 dst, .int .u8 proto, .int .u16 id, .int .u8 0, .bool true, .int .u16 sport, .int .u16 dport, .slice ao n cv][j]? := arr_cell ((HB12.out.block pb hpz).trans HP.out)
    have hz12 : pb < w12.heap.size := Nat.lt_of_lt_of_le hpz HB12.out.size
    clear hb12 ho3 hh3 HBc11 HC11 HG11 HUP HBY HP HH1
    go_wp2_with fail
    refine (same_true src dst proto id 0 true sport dport (fl bit n) ao3 ao n cv3 cv _ HL1.out (HH3.out.below ((Below.refl _ _).alloc (Nat.le_refl _) _)) (HHP.out.below ((Below.refl _ _).alloc (Nat.le_refl _) _))).mono ?_
    rintro e w13 ⟨rfl, hb13⟩
    have HBe : Hid (Below w.heap.size w w13) := HB1.out.trans (((HB12.out.alloc HB12.out.size _).trans (hb13.mono (by simp; have := HB12.out.size; omega))).mono HB1.out.size)
    clear hb13 HB12 HHP HH3 cp
    go_wp2
    go_ret
    exact ⟨by simp, HBe.out⟩

set_option maxRecDepth 100000 in
set_option maxHeartbeats 3200000 in
theorem guarded_0f (src dst id proto sport dport off units bit : Int) (u k : Nat) (w : World) (hsrc0 : 0 ≤ src) (hsrc : src ≤ 65535) (hdst0 : 0 ≤ dst) (hdst : dst ≤ 65535) (hproto0 : 0 ≤ proto) (hproto : proto ≤ 255) (hid0 : 0 ≤ id) (hid : id ≤ 65535) (hsport0 : 0 ≤ sport) (hsport : sport ≤ 65535) (hdport0 : 0 ≤ dport) (hdport : dport ≤ 65535)
    (b1 : -9223372036854775808 ≤ off ∧ off ≤ 9223372036854775807) (b2 : -9223372036854775808 ≤ units ∧ units ≤ 9223372036854775807) (b3 : -9223372036854775808 ≤ bit ∧ bit ≤ 9223372036854775807)
    (ho : pk off 16 = 0) (hu : pk units 8 = u) (hk : pk bit 96 = k) (hu8 : u ≤ 7) (hk96 : k < 96) :
    Calls Try.prog 4 #[.agg #[.int .u16 src, .int .u16 dst, .int .u16 id, .int .u8 proto, .int .u16 sport, .int .u16 dport], .int .i64 off, .int .i64 units, .int .i64 bit, .bool false] w fun e w' => e = .returned (.bool true) ∧ Below w.heap.size w w' := by
  have K1 : Hid (∀ w, Calls Try.prog 9 #[.int .i64 off, .int .i64 16] w fun e w' => e = .returned (.int .i64 0) ∧ w' = w) := by intro w; have h := pick_any off 16 w b1.1 b1.2 (by decide) (by decide); rw [ho] at h; exact h
  have K2 : Hid (∀ w, Calls Try.prog 9 #[.int .i64 units, .int .i64 8] w fun e w' => e = .returned (.int .i64 u) ∧ w' = w) := by intro w; have h := pick_any units 8 w b2.1 b2.2 (by decide) (by decide); rw [hu] at h; exact h
  have K3 : Hid (∀ w, Calls Try.prog 9 #[.int .i64 bit, .int .i64 96] w fun e w' => e = .returned (.int .i64 k) ∧ w' = w) := by intro w; have h := pick_any bit 96 w b3.1 b3.2 (by decide) (by decide); rw [hk] at h; exact h
  obtain ⟨n, hn⟩ : ∃ n : Nat, n = 4 * (1 + u) := ⟨_, rfl⟩
  have hn1 : 1 ≤ n ∧ n ≤ 32 ∧ n % 4 = 0 := by omega
  have hw1 : IntKind.i64.wrap (1 + (u : Int)) = 1 + (u : Int) := by rw [IntKind.wrap_i64]; omega
  have hw2 : IntKind.i64.wrap (4 * (1 + (u : Int))) = (n : Int) := by rw [IntKind.wrap_i64]; omega
  have HWF : Hid (wfB 0 false sport dport n = true) := by show _ = _; simp [wfB]; omega
  clear hn ho hu hk b1 b2
  obtain ⟨i5, hi, hz5, hz6, hz7⟩ := info_parts Try.info5
  have HI := hide (And.intro hi (And.intro hz5 (And.intro hz6 hz7)))
  clear hi hz5 hz6 hz7
  go_enter Try.func4, Try.ntmps4
  go_wp2_with fail
  refine (K1.out _).mono ?_
  rintro e w1 ⟨rfl, rfl⟩
  clear K1
  go_upto_region 2 with (fail)
  go_cut [12] (fun t wz => ∃ (pb : Nat) (ao : Option Addr) (cv : Nat), t = .pointer (some ⟨pb, 0, none⟩) ∧ Hid (w.heap.size < pb) ∧ Hid (wz.heap[pb]? = some (.cells #[.int .u16 src, .int .u16 dst, .int .u8 proto, .int .u16 id, .int .u8 0, .bool false, .int .u16 sport, .int .u16 dport, .slice ao n cv] 28 (0, 0))) ∧ Hid (Has wz ao (fl bit n)) ∧ Hid (ao = none → cv = 0) ∧ Hid (Below w.heap.size w wz))
  case first =>
    go_region_held3 (fun w' => w'.cell? ⟨w.heap.size, 0, none⟩ = some (.int .u16 src) ∧ w'.cell? ⟨w.heap.size, 1, none⟩ = some (.int .u16 dst) ∧ w'.cell? ⟨w.heap.size, 2, none⟩ = some (.int .u16 id) ∧ w'.cell? ⟨w.heap.size, 3, none⟩ = some (.int .u8 proto) ∧ w'.cell? ⟨w.heap.size, 4, none⟩ = some (.int .u16 sport) ∧ w'.cell? ⟨w.heap.size, 5, none⟩ = some (.int .u16 dport)) (go_keep) (first | (go_at_call 9; refine (K2.out _).mono ?_; rintro e w' ⟨rfl, rfl⟩) | (go_at_call 10; refine (packet_0 src dst id proto sport dport n false bit _ (by omega)).mono ?_; rintro e w1 ⟨v1, rfl, ho1, hb1⟩; obtain ⟨ao, cv, rfl, hh1, hl1, _, _, hnil⟩ := owns_any ho1; have HK := hide (And.intro ho1 hb1); have hcl := fun j => hb1.cell (p := ⟨w.heap.size, j, none⟩) (by simp <;> omega); have hc2 := fun j (h : w.heap.size + 1 < _) => hb1.cell (p := ⟨w.heap.size + 1, j, none⟩) h; have hf2 := fun j (h : w.heap.size + 1 < _) => hb1.frozen (p := ⟨w.heap.size + 1, j, none⟩) h; have hzz : w.heap.size < w1.heap.size := Nat.lt_of_lt_of_le (by simp <;> omega) hb1.size; clear ho1 hh1 hl1 hnil hb1))
    all_goals (go_wp2_with fail; go_meet)
    all_goals go_light
    · obtain ⟨h1, _, h3⟩ := owns_has2 HK.out.1
      exact ⟨_, ao, cv, rfl, hzz, heap_alloc_new _ _, h1.below ((Below.refl _ _).alloc (Nat.le_refl _) _), h3, Below.alloc (Below.trans ((Below.refl _ _).alloc (Nat.le_refl _) _).drew (Below.mono HK.out.2 (by simp))) (Nat.le_of_lt hzz) _⟩
    all_goals
      have h0 : w1.heap[w.heap.size + 1]? = some (.cells #[.int .u16 0, .int .u16 0, .int .u8 0, .int .u16 0, .int .u8 0, .bool false, .int .u16 0, .int .u16 0, .slice none 0 0] 28 (0, 0)) := (HK.out.2.block (w.heap.size + 1) (by simp)).trans (by have h := heap_alloc_new (w.alloc (.cells #[.int .u16 src, .int .u16 dst, .int .u16 id, .int .u8 proto, .int .u16 sport, .int .u16 dport] 24)) (.cells #[.int .u16 0, .int .u16 0, .int .u8 0, .int .u16 0, .int .u8 0, .bool false, .int .u16 0, .int .u16 0, .slice none 0 0] 28); rw [World.size_alloc] at h; exact h)
      obtain ⟨h1, _, h3⟩ := owns_has2 (owns_store9 HK.out.1 (g := w.heap.size + 1) (by simp) _ _ _ _ _ _ _ _ _)
      exact ⟨_, ao, cv, rfl, Nat.lt_succ_self _, store9 h0 _ _ _ _ _ _ _ _ _, h1, h3, below_store9 (Below.trans (((Below.refl _ _).alloc (Nat.le_refl _) _).alloc (by simp) _).drew (Below.mono HK.out.2 (by simp <;> omega))) (by simp) _ _ _ _ _ _ _ _ _⟩
  case rest =>
    obtain ⟨pb, ao, cv, rfl, HPB, HP, HH1, HNIL, HB1⟩ := hcut
    have hpz : pb < wc.heap.size := lt_of_block HP.out
    have cp := arr_cell HP.out
    clear K2 hw1 hw2
    have hl1 := fl_length bit n
    have hfl : fl bit n ≠ [] := by intro h; rw [h] at hl1; simp at hl1; omega
    have hwf' : wfB 0 false sport dport (fl bit n).length = true := by rw [hl1]; exact HWF.out
    obtain ⟨hup0, hupP⟩ := up_pk src dst proto id 0 false sport dport (fl bit n) hsrc0 hsrc hdst0 hdst hproto0 hproto hid0 hid (by omega) (by omega) hsport0 hsport hdport0 hdport hwf'
    have hby := pk_bytes src dst proto id 0 false sport dport (fl bit n) hsrc0 hsrc hdst0 hdst hproto0 hproto hid0 hid (by omega) (by omega) hsport0 hsport hdport0 hdport (by rw [hl1]; omega) (fl_bd bit n)
    have hless := up_less src dst proto id 0 false sport dport (fl bit n) hfl
    have hmore := up_more src dst proto id 0 false sport dport (fl bit n) (bit % 256)
    have hflip := up_flip src dst proto id 0 false sport dport (fl bit n) hsrc0 hsrc hdst0 hdst hproto0 hproto hid0 hid (by omega) (by omega) (by rw [hl1]; omega)
    have hLe : pkL src dst proto id 0 false sport dport (fl bit n) = hdL src dst proto id 0 false (fl bit n).length ++ ptL 0 sport dport ++ fl bit n := rfl
    have hLn : (pkL src dst proto id 0 false sport dport (fl bit n)).length = 16 + n := by rw [hLe]; simp [hdL, ptL, hl1]; omega
    have HPK := hide (packed_yes src dst proto id 0 false sport dport ao n cv (fl bit n) wc hsrc0 hsrc hdst0 hdst hproto0 hproto hid0 hid (by omega) (by omega) hsport0 hsport hdport0 hdport hl1 HNIL.out HH1.out HWF.out)
    clear hLe hwf' hfl HWF HNIL
    generalize hL : pkL src dst proto id 0 false sport dport (fl bit n) = L at *
    clear hL
    obtain ⟨N, hN⟩ : ∃ N, N = 16 + n := ⟨_, rfl⟩
    rw [← hN] at hLn
    have hN1 : 16 ≤ N ∧ N ≤ 48 := by omega
    rw [hLn] at hless HPK
    have HUP := hide (And.intro hup0 hupP)
    have HBY := hide hby
    have HLESS := hide hless
    have HMORE := hide hmore
    have HFLIP := hide hflip
    have HLN := hide hLn
    have HL1 := hide hl1
    clear hup0 hupP hby hless hmore hflip hLn hN hl1 hsrc0 hsrc hdst0 hdst hproto0 hproto hid0 hid hsport0 hsport hdport0 hdport b3
    go_wp2_with fail
    refine HPK.out.mono ?_
    rintro e w2 ⟨g, cb, rfl, ho2, hb2⟩
    have hgb : wc.heap.size ≤ g := by
      have := (ho2.lt g rfl).1
      exact this
    obtain ⟨hh2, _, hc2, hm2⟩ := owns_has ho2
    obtain ⟨cur, hcur, hcz⟩ := owns_row ho2 HLN.out
    have hgz : g < w2.heap.size := lt_of_block hcur
    have HH2 := hide hh2
    have HB2 := hide hb2
    have HCUR := hide hcur
    have HCZ := hide hcz
    have HCB := hide (And.intro hc2 hm2)
    have heq := fun wx => Lib.run_eql_slice_nil (P := Try.prog) wx 26 5 (some ⟨g, 0, none⟩) N cb 0 0 Try.underlying26
    have i1 : N ≤ cb := hc2
    have i2 : cb ≤ 9223372036854775807 := by unfold maxLen at hm2; omega
    clear ho2 hb2 hh2 hcur hcz hc2 hm2 HPK cp
    go_wp2_with fail
    refine (funpack_any _ _ cb (L.take (N - 1)) w2 (by rw [List.length_take, HLN.out]; omega) (by omega) HCB.out.2 (has_take (N - 1) HH2.out) (fun z hz => HBY.out z (List.mem_of_mem_take hz))).mono ?_
    intro e w3 h3
    obtain ⟨rfl, hb3⟩ := UpPost.err h3 HLESS.out (by decide)
    have HB3 := hide hb3
    have hz3 : w2.heap.size ≤ w3.heap.size := hb3.size
    have HA : Hid (∀ O j u, (L.map (Value.int .u8))[j]? = some u → (w3.alloc O).cell? ((⟨g, 0, none⟩ : Addr).add j) = some u) := fun O => Has.cells (HH2.out.below (HB3.out.trans ((Below.refl _ _).alloc hz3 _)))
    clear h3 hb3 heq i1 i2 HLESS
    obtain ⟨hi, hz5, hz6, hz7⟩ := HI.out
    go_wp2_with (at_builtin; refine wpList_append_own _ rfl (.tmp 50) (.tmp 51) 26 rfl (w3.heap.size + 1) 5 i5 (.int .u8 0) 1 1 Try.underlying26 hi hz5 hz6 hz7 rfl (by decide) _ _ _ rfl (World.ownsRow_nil _ _ _ _) ⟨g, 0, none⟩ N cb (L.map (Value.int .u8)) rfl (by simp [HLN.out]) (HA.out _) (ints_oneCell _ _) (by unfold maxLen; omega) (by omega) (by simp) ?_)
    intro v5 w5 hown hgrow hiff
    have HO5 := hide hown
    have HB5 : Hid (Below (w3.heap.size + 1) _ w5) := (Below.refl _ _).grown hgrow (by simp) (by simp [Value.ownBlock])
    have hz5a : w3.heap.size + 1 ≤ w5.heap.size := by have := HB5.out.size; simpa using this
    clear hown hgrow hiff HA
    go_wp2_with (at_builtin; refine wpList_append_own _ rfl (.tmp 53) (.tmp 56) 26 rfl (w3.heap.size + 1) 5 i5 (.int .u8 0) 1 1 Try.underlying26 hi hz5 hz6 hz7 rfl (by decide) _ _ _ rfl (HO5.out.alloc _) ⟨w5.heap.size, 0, none⟩ 1 1 [.int .u8 (bit % 256)] rfl rfl (cell_one_new _ _ _) (by simp [Value.oneCell']) (by unfold maxLen; omega) (by omega) (by simp; omega) ?_)
    intro v6 w6 hown hgrow hiff
    obtain ⟨ao6, cv6, rfl, hh6, hl6, hc6, hm6, _⟩ := owns_any (zs := L ++ [bit % 256]) (by simpa using hown)
    have HB36 : Hid (Below w3.heap.size w3 w6) := ((Below.refl _ _).alloc (Nat.le_refl _) _).trans (((HB5.out.alloc hz5a _).grown hgrow (by simp; omega) (fun q hq => (HO5.out.lt q hq).1)).mono (by omega))
    have HH6 := hide hh6
    have HC6 := hide (And.intro hl6 (And.intro hc6 hm6))
    clear hown hgrow hiff hh6 hl6 hc6 hm6 HO5 HB5 hz5a hi hz5 hz6 hz7
    go_wp2_with fail
    refine (funpack_any ao6 (N + 1) cv6 (L ++ [bit % 256]) w6 HC6.out.1 HC6.out.2.1 HC6.out.2.2 HH6.out (fun z hz => by rcases List.mem_append.1 hz with hz | hz; exact HBY.out z hz; simp at hz; omega)).mono ?_
    intro e w7 h7
    obtain ⟨rfl, hb7⟩ := UpPost.err h7 HMORE.out (by decide)
    have HB27 : Hid (Below w2.heap.size w2 w7) := (HB3.out.trans (HB36.out.mono hz3)).trans (hb7.mono (by have := HB36.out.size; omega))
    have hz7 : w2.heap.size ≤ w7.heap.size := HB27.out.size
    clear h7 hb7 HMORE HH6 HC6 HB3 HB36
    go_wp2_with fail
    refine (K3.out _).mono ?_
    rintro e w8 ⟨rfl, rfl⟩
    clear K3
    have hk8 : k / 8 < L.length := by have := HLN.out; omega
    obtain ⟨z, hz⟩ : ∃ z, z = L.getD (k / 8) 0 := ⟨_, rfl⟩
    have hzb : 0 ≤ z ∧ z ≤ 255 := by rw [hz, List.getD_eq_getElem?_getD, List.getElem?_eq_getElem hk8]; exact HBY.out _ (List.getElem_mem _)
    have HG7 : Hid (∀ O, (w7.alloc O).heap[g]? = some (.cells cur 5 (0, 0))) := fun O => (Below.heap_alloc _ _ _ (by omega)).trans ((HB27.out.block g hgz).trans HCUR.out)
    have e0 : ∀ O, (w7.alloc O).cell? ⟨g, k / 8, none⟩ = some (.int .u8 z) := fun O => by rw [arr_cell (HG7.out O), HCZ.out _ hk8, hz]
    have f0 : ∀ O, (w7.alloc O).frozen? ⟨g, k / 8, none⟩ = false := fun O => arr_frozen (HG7.out O) _
    have HZ := hide hz
    have HK8 := hide hk8
    clear hz hk8
    have j1 : (0 : Int) ≤ (k : Int) / 8 := by omega
    have j2 : (k : Int) / 8 < (N : Int) := by omega
    have j3 : k / 8 < N := by omega
    go_upto_region 12 with (fail)
    have hy : 1 ≤ (2 : Int) ^ (k % 8) % 256 ∧ (2 : Int) ^ (k % 8) % 256 ≤ 255 := pow_bd (k % 8) (by omega)
    obtain ⟨hx0, hx1, hxz, hxx⟩ := xor_facts z _ hzb.1 hzb.2 hy.1 hy.2
    go_region
    generalize hxe : bits BinOp.xor IntKind.u8 z (2 ^ (k % 8) % 256) = x at *
    have HX := hide (And.intro hx0 (And.intro hx1 hxz))
    clear hxe hx0 hx1 hxz hy e0 f0
    generalize hW8 : ((w7.alloc (.cells #[.int .u16 0, .int .u16 0, .int .u8 0, .int .u16 0, .int .u8 0, .bool false, .int .u16 0, .int .u16 0, .slice none 0 0] 28)).setCell ⟨g, k / 8, none⟩ (.int .u8 x)).drew = w8
    have HG8 : Hid (w8.heap[g]? = some (.cells (cur.setIfInBounds (k / 8) (.int .u8 x)) 5 (0, 0))) := by rw [← hW8]; exact row_setCell (HG7.out _) _
    have HBc8 : Hid (Below wc.heap.size wc w8) := by rw [← hW8]; exact ((((HB2.out.trans (HB27.out.mono HB2.out.size)).alloc (Nat.le_trans HB2.out.size hz7) _).setCell hgb _).drew)
    have hz8 : g < w8.heap.size := lt_of_block HG8.out
    clear hW8 HG7 HB27 HB2 HH2 HCUR hz7 hgz hz3
    have HC8 : Hid (∀ j, j < (L.set (k / 8) x).length → (cur.setIfInBounds (k / 8) (.int .u8 x))[j]? = some (.int .u8 ((L.set (k / 8) x).getD j 0))) := set_row HCZ.out HK8.out x
    have HBYx : Hid (∀ q ∈ L.set (k / 8) x, 0 ≤ q ∧ q ≤ 255) := by
      intro q hq
      rcases List.mem_or_eq_of_mem_set hq with h | h
      · exact HBY.out q h
      · subst h; exact ⟨HX.out.1, HX.out.2.1⟩
    have HNEc : Hid (upC (L.set (k / 8) x) ≠ 0) := HFLIP.out (k / 8) (by omega) x HX.out.1 HX.out.2.1 (by rw [← HZ.out]; exact HX.out.2.2)
    clear HFLIP
    go_wp2_with fail
    refine (funpack_any _ N cb (L.set (k / 8) x) w8 (by rw [List.length_set]; exact HLN.out) HCB.out.1 HCB.out.2 (has_of_row HG8.out HC8.out) HBYx.out).mono ?_
    intro e w9 h9
    obtain ⟨rfl, hb9⟩ := UpPost.err h9 rfl HNEc.out
    generalize upC (L.set (k / 8) x) = c at *
    have hcne : (c != 0) = true := by simpa using HNEc.out
    have HB89 := hide hb9
    have hz9 : w8.heap.size ≤ w9.heap.size := hb9.size
    clear h9 hb9 HNEc HBYx HC8
    go_wp2_with fail
    refine (same_true 0 0 0 0 0 false 0 0 [] none none 0 0 0 _ rfl ⟨fun _ => rfl, fun h => absurd rfl h⟩ ⟨fun _ => rfl, fun h => absurd rfl h⟩).mono ?_
    rintro e w10 ⟨rfl, hb10⟩
    have HB810 : Hid (Below w8.heap.size w8 w10) := (HB89.out.trans ((Below.refl _ _).alloc hz9 _)).trans (hb10.mono (by simp; omega))
    have hz10 : w8.heap.size ≤ w10.heap.size := HB810.out.size
    have HG10 : Hid (w10.heap[g]? = some (.cells (cur.setIfInBounds (k / 8) (.int .u8 x)) 5 (0, 0))) := (HB810.out.block g hz8).trans HG8.out
    have e0 : w10.cell? ⟨g, k / 8, none⟩ = some (.int .u8 x) := by
      rw [arr_cell HG10.out, Array.getElem?_setIfInBounds_self_of_lt]
      have := HCZ.out _ HK8.out
      exact (Array.getElem?_eq_some_iff.1 this).1
    have f0 : w10.frozen? ⟨g, k / 8, none⟩ = false := arr_frozen HG10.out _
    clear hb10 HB89 hz9
    go_upto_region 15 with (fail)
    go_region
    clear e0 f0
    try rw [hxx]
    generalize hW11 : (w10.setCell ⟨g, k / 8, none⟩ (.int .u8 z)).drew = w11
    have HG11 : Hid (w11.heap[g]? = some (.cells ((cur.setIfInBounds (k / 8) (.int .u8 x)).setIfInBounds (k / 8) (.int .u8 z)) 5 (0, 0))) := by rw [← hW11]; exact row_setCell HG10.out _
    have HBc11 : Hid (Below wc.heap.size wc w11) := by rw [← hW11]; exact (((HBc8.out.trans (HB810.out.mono HBc8.out.size)).setCell hgb _).drew)
    clear hW11 HG8 HG10 HBc8 HB810 hz8 hz10 hxx
    have HC11 : Hid (∀ j, j < L.length → ((cur.setIfInBounds (k / 8) (.int .u8 x)).setIfInBounds (k / 8) (.int .u8 z))[j]? = some (.int .u8 (L.getD j 0))) := by
      have h1 := set_row (set_row HCZ.out HK8.out x) (by rw [List.length_set]; exact HK8.out) z
      rw [List.set_set, HZ.out, set_getD L _ HK8.out] at h1
      rw [HZ.out]
      exact h1
    go_wp2_with fail
    refine (funpack_any _ N cb L w11 HLN.out HCB.out.1 HCB.out.2 (has_of_row HG11.out HC11.out) HBY.out).mono ?_
    rintro e w12 ⟨hb12, h12⟩
    rcases h12 with ⟨_, v3, rfl, ho3⟩ | ⟨hbad, _⟩
    rotate_left
    · exact absurd HUP.out.1 hbad
    rw [HUP.out.2] at ho3 ⊢
    simp only at ho3 ⊢
    obtain ⟨ao3, cv3, rfl, hh3, _, _, _, _⟩ := owns_any ho3
    rw [HL1.out] at ho3 ⊢
    have HB12 : Hid (Below wc.heap.size wc w12) := HBc11.out.trans (hb12.mono HBc11.out.size)
    have HHP : Hid (Has w12 ao (fl bit n)) := HH1.out.below HB12.out
    have HH3 := hide hh3
    have cp : ∀ j, w12.cell? ⟨pb, j, none⟩ = #[.int .u16 src, .int .u16 dst, .int .u8 proto, .int .u16 id, .int .u8 0, .bool false, .int .u16 sport, .int .u16 dport, .slice ao n cv][j]? := arr_cell ((HB12.out.block pb hpz).trans HP.out)
    have hz12 : pb < w12.heap.size := Nat.lt_of_lt_of_le hpz HB12.out.size
    clear hb12 ho3 hh3 HBc11 HC11 HG11 HUP HBY HP HH1
    go_wp2_with fail
    refine (same_true src dst proto id 0 false sport dport (fl bit n) ao3 ao n cv3 cv _ HL1.out (HH3.out.below ((Below.refl _ _).alloc (Nat.le_refl _) _)) (HHP.out.below ((Below.refl _ _).alloc (Nat.le_refl _) _))).mono ?_
    rintro e w13 ⟨rfl, hb13⟩
    have HBe : Hid (Below w.heap.size w w13) := HB1.out.trans (((HB12.out.alloc HB12.out.size _).trans (hb13.mono (by simp; have := HB12.out.size; omega))).mono HB1.out.size)
    clear hb13 HB12 HHP HH3 cp
    go_wp2
    go_ret
    exact ⟨by simp, HBe.out⟩

end Go.Proofs.Ytajphdppmdoalaa
