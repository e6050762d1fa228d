import Derived.Test.YtajphdppmdoalaaZOKtoJ9
import Derived.Test.YtajphdppmdoalaaZJ1toLP
import Derived.Test.YtajphdppmdoalaaZKtoM
import Derived.Deep.RegionHeld3
namespace Go.Proofs.Ytajphdppmdoalaa
open Go.RowKit
set_option linter.unusedVariables false

theorem packet_any (src dst id proto sport dport off : Int) (n : Nat) (more : Bool) (fill : Int) (w : World) (hoff0 : 0 ≤ off) (hoff : off ≤ 15) (hn : n ≤ 32) :
    Calls Try.prog 10 #[.agg #[.int .u16 src, .int .u16 dst, .int .u16 id, .int .u8 proto, .int .u16 sport, .int .u16 dport], .int .i64 off, .int .i64 n, .bool more, .int .i64 fill] w fun e w' => ∃ ao cap, e = .returned (.agg #[.int .u16 src, .int .u16 dst, .int .u8 proto, .int .u16 id, .int .u8 off, .bool more, .int .u16 (if off = 0 then sport else 0), .int .u16 (if off = 0 then dport else 0), .slice ao n cap]) ∧ Has w' ao (fl fill n) ∧ (ao = none → cap = 0) ∧ Below w.heap.size w w' := by
  by_cases h0 : off = 0
  · subst h0
    refine (packet_0 src dst id proto sport dport n more fill w hn).mono ?_
    rintro e w' ⟨v, rfl, hrow, hb⟩
    obtain ⟨ao, cv, rfl, h1, h2, h3, h4, h5⟩ := owns_any hrow
    exact ⟨ao, cv, rfl, h1, h5, hb⟩
  · refine (packet_1 src dst id proto sport dport off n more fill w hoff0 hoff (by simpa using h0) hn).mono ?_
    rintro e w' ⟨v, rfl, hrow, hb⟩
    obtain ⟨ao, cv, rfl, h1, h2, h3, h4, h5⟩ := owns_any hrow
    exact ⟨ao, cv, by rw [if_neg h0, if_neg h0], h1, h5, hb⟩

theorem pkL_len (src dst proto id off : Int) (more : Bool) (sport dport : Int) (zs : List Int) (h : zs.length ≤ 32) : 12 ≤ (pkL src dst proto id off more sport dport zs).length ∧ (pkL src dst proto id off more sport dport zs).length ≤ 48 := by
  have h1 : (hdL src dst proto id off more zs.length).length = 12 := rfl
  have h2 : (ptL off sport dport).length ≤ 4 := by unfold ptL; split <;> simp
  rw [pkL, List.length_append, List.length_append, h1]
  omega
theorem packet_z (src dst id proto sport dport : Int) (n : Nat) (more : Bool) (fill : Int) (w : World) (hn : n ≤ 32) :
    Calls Try.prog 10 #[.agg #[.int .u16 src, .int .u16 dst, .int .u16 id, .int .u8 proto, .int .u16 sport, .int .u16 dport], .int .i64 0, .int .i64 n, .bool more, .int .i64 fill] w fun e w' => ∃ ao cap, e = .returned (.agg #[.int .u16 src, .int .u16 dst, .int .u8 proto, .int .u16 id, .int .u8 0, .bool more, .int .u16 sport, .int .u16 dport, .slice ao n cap]) ∧ Has w' ao (fl fill n) ∧ (ao = none → cap = 0) ∧ Below w.heap.size w w' := by
  refine (packet_0 src dst id proto sport dport n more fill w hn).mono ?_
  rintro e w' ⟨v, rfl, hrow, hb⟩
  obtain ⟨ao, cv, rfl, h1, h2, h3, h4, h5⟩ := owns_any hrow
  exact ⟨ao, cv, rfl, h1, h5, hb⟩
theorem packet_nz (src dst id proto sport dport off : Int) (n : Nat) (more : Bool) (fill : Int) (w : World) (hoff0 : 0 ≤ off) (hoff : off ≤ 15) (h0 : off ≠ 0) (hn : n ≤ 32) :
    Calls Try.prog 10 #[.agg #[.int .u16 src, .int .u16 dst, .int .u16 id, .int .u8 proto, .int .u16 sport, .int .u16 dport], .int .i64 off, .int .i64 n, .bool more, .int .i64 fill] w fun e w' => ∃ ao cap, e = .returned (.agg #[.int .u16 src, .int .u16 dst, .int .u8 proto, .int .u16 id, .int .u8 off, .bool more, .int .u16 0, .int .u16 0, .slice ao n cap]) ∧ Has w' ao (fl fill n) ∧ (ao = none → cap = 0) ∧ Below w.heap.size w w' := by
  refine (packet_1 src dst id proto sport dport off n more fill w hoff0 hoff (by simpa using h0) hn).mono ?_
  rintro e w' ⟨v, rfl, hrow, hb⟩
  obtain ⟨ao, cv, rfl, h1, h2, h3, h4, h5⟩ := owns_any hrow
  exact ⟨ao, cv, rfl, h1, h5, hb⟩

set_option maxRecDepth 100000 in
set_option maxHeartbeats 1600000 in
theorem begun_any (N : Nat) (life : Int) (zs : List Int) (ao : Option Addr) (n cap : Nat) (w : World) (hN1 : 1 ≤ N) (hN5 : N ≤ 5) (hl1 : 1 ≤ life) (hl2 : life ≤ 20) (hl : zs.length = n) (hd : Has w ao zs) (hn : n ≤ 6) (hz : ∀ z ∈ zs, 0 ≤ z ∧ z ≤ 255) (ht : tE zs ≠ 1) :
    Calls Try.prog 16 #[.int .i64 N, .int .i64 life, .slice ao n cap] w fun e w' => ∃ xb F, e = .returned (.pointer (some ⟨xb, 0, none⟩)) ∧ PrIs w' xb (backM (Cl.new N life) (tblOf zs)) F ∧ (∀ k, F k → w.heap.size ≤ k) ∧ Below w.heap.size w w' := by
  have HNW := hide (new_ok N life w hN1 hN5 hl1 hl2)
  have HBK := hide (fun xb F w1 (h : PrIs w1 xb (Cl.new N life) F) (hb : Below w.heap.size w w1) => back_any xb (Cl.new N life) F zs ao n cap w1 h hl (hd.below hb) (by omega) hz)
  have HTE := hide ht
  generalize tE zs = te at *
  generalize tblOf zs = tb at *
  clear hd hz ht
  go_enter Try.func16, Try.ntmps16
  go_wp2_with fail
  refine HNW.out.mono ?_
  rintro e w1 ⟨xb, F, rfl, h1, hF, hb⟩
  have HB := hide hb
  have HF := hide hF
  have HK := hide (HBK.out xb F w1 h1 hb)
  clear h1 hF hb HBK HNW
  go_wp2_with fail
  refine HK.out.mono ?_
  rintro e w2 (⟨h1, rfl, _⟩ | ⟨h1, rfl, F2, h2, hS⟩)
  · exact absurd h1 HTE.out
  · have HR := hide (And.intro h2 hS)
    clear h1 h2 hS HK
    go_wp2
    go_ret
    refine ⟨xb, F2, rfl, HR.out.1, fun k hk => ?_, ?_⟩
    · rcases HR.out.2.own k hk with h | h
      · exact HF.out k h
      · exact Nat.le_trans HB.out.size h
    · exact HB.out.trans (HR.out.2.only.to_below HB.out.size (fun k hk => HF.out k hk))

end Go.Proofs.Ytajphdppmdoalaa

namespace Go.Proofs.Ytajphdppmdoalaa
open Go.RowKit
set_option linter.unusedVariables false

set_option maxRecDepth 100000 in
set_option maxHeartbeats 6400000 in
theorem play_core (xb N : Nat) (kind a b c kd fa fi fs : Int) (w : World) (hkind : -9223372036854775808 ≤ kind ∧ kind ≤ 9223372036854775807) (ha : -9223372036854775808 ≤ a ∧ a ≤ 9223372036854775807) (hb : -9223372036854775808 ≤ b ∧ b ≤ 9223372036854775807) (hc : -9223372036854775808 ≤ c ∧ c ≤ 9223372036854775807) (hkd : pk kind 12 = kd) (hfa : pk a 3 = fa) (hfi : pk (a.tdiv 3) 2 = fi) (hfs : pk b 2 = fs)
    (hN1 : 1 ≤ N) (hN5 : N ≤ 5) (Q : Nat → World → World → Prop)
    (HT : Hid (∀ wz, Below w.heap.size w wz → Calls Try.prog 25 #[.pointer (some ⟨xb, 0, none⟩)] wz fun e w' => e = .returned (.tuple #[]) ∧ Q 0 wz w'))
    (HL : Hid (∀ (k : Int) wz, Below w.heap.size w wz → Calls Try.prog 40 #[.pointer (some ⟨xb, 0, none⟩), .int .i64 k] wz fun e w' => ∃ ec, e = .returned (.int .i64 ec) ∧ Q 0 wz w'))
    (HD : Hid (∀ (k : Int) wz, Below w.heap.size w wz → Calls Try.prog 38 #[.pointer (some ⟨xb, 0, none⟩), .int .i64 k] wz fun e w' => ∃ ec, e = .returned (.int .i64 ec) ∧ Q 0 wz w'))
    (HK : Hid (∀ (zs : List Int) (ao : Option Addr) (n cap : Nat) wz, Below w.heap.size w wz → zs.length = n → Has wz ao zs → n ≤ 6 → (∀ z ∈ zs, 0 ≤ z ∧ z ≤ 255) → Calls Try.prog 31 #[.pointer (some ⟨xb, 0, none⟩), .slice ao n cap] wz fun e w' => ∃ ec, e = .returned (.int .i64 ec) ∧ Q 0 wz w'))
    (HA : Hid (∀ (rep : Int) (zs : List Int) (g n cap : Nat) wz, Below w.heap.size w wz → 0 ≤ rep → rep < N → zs.length = n → n ≤ cap → cap ≤ maxLen → Has wz (some ⟨g, 0, none⟩) zs → (∀ z ∈ zs, 0 ≤ z ∧ z ≤ 255) → w.heap.size ≤ g → Calls Try.prog 19 #[.pointer (some ⟨xb, 0, none⟩), .int .i64 rep, .slice (some ⟨g, 0, none⟩) n cap] wz fun e w' => ∃ nx, e = .returned (.tuple #[.int .i64 nx, .int .i64 0]) ∧ Q 1 wz w')) :
    Calls Try.prog 23 #[.pointer (some ⟨xb, 0, none⟩), .int .i64 N, .agg #[.int .i64 kind, .int .i64 a, .int .i64 b, .int .i64 c]] w fun e w' => ∃ (r : Nat) (wz : World), e = .returned (.int .i64 r) ∧ Below w.heap.size w wz ∧ Q r wz w' := by
  have hkb := pk_bd kind 12 (by decide)
  rw [hkd] at hkb
  have hq3 := tdiv_bd a 3 (by decide) ha.1 ha.2
  have hwr : IntKind.i64.wrap (a.tdiv 3) = a.tdiv 3 := by rw [IntKind.wrap_i64]; omega
  have HPA : Hid (∀ (x n : Int) (w : World), (x = a ∧ n = 3 ∨ x = IntKind.i64.wrap (a.tdiv 3) ∧ n = 2 ∨ x = b ∧ n = 2) → Calls Try.prog 9 #[.int .i64 x, .int .i64 n] w fun e w' => e = .returned (.int .i64 (pk x n)) ∧ w' = w) := by
    intro x n w hx
    rcases hx with ⟨rfl, rfl⟩ | ⟨rfl, rfl⟩ | ⟨rfl, rfl⟩
    · exact pick_any _ _ w ha.1 ha.2 (by decide) (by decide)
    · rw [hwr]
      exact pick_any _ _ w hq3.1 hq3.2 (by decide) (by decide)
    · exact pick_any _ _ w hb.1 hb.2 (by decide) (by decide)
  have HPK := hide (fun w => pick_any kind 12 w hkind.1 hkind.2 (by decide) (by decide))
  have b1 := pk_bd a 3 (by decide)
  have b2 := pk_bd (a.tdiv 3) 2 (by decide)
  have b3 := pk_bd b 2 (by decide)
  rw [hkd] at HPK
  have HU : Hid (IntKind.u16.wrap (pk a 3) = fa ∧ IntKind.u16.wrap (pk (IntKind.i64.wrap (a.tdiv 3)) 2) = fi ∧ IntKind.u16.wrap (pk b 2) = fs) := by
    show _ ∧ _ ∧ _
    rw [hwr, hfa, hfi, hfs]
    rw [hfa] at b1
    rw [hfi] at b2
    rw [hfs] at b3
    refine ⟨?_, ?_, ?_⟩ <;> simp only [IntKind.wrap_u16] <;> omega
  rw [hfa] at b1
  rw [hfi] at b2
  rw [hfs] at b3
  clear hfa hfi hfs hkd hq3 hwr
  have HW0 : Hid (FxW w.heap.size w #[.int .i64 kind, .int .i64 a, .int .i64 b, .int .i64 c] (w.alloc (.cells #[.int .i64 kind, .int .i64 a, .int .i64 b, .int .i64 c] 65))) := ⟨(Below.refl _ _).alloc (Nat.le_refl _) _, by simp, box_cell (Below.refl _ _)⟩
  generalize hX : w.heap.size = X at *
  go_enter Try.func23, Try.ntmps23
  go_upto_region 1 with (fail)
  have cX := HW0.out.2.2
  have hX1 := HW0.out.2.1
  generalize w.alloc (.cells #[.int .i64 kind, .int .i64 a, .int .i64 b, .int .i64 c] 65) = w1 at *
  have cA := cX 1
  have cB := cX 2
  go_cut [7] (fun a7 wc => ∃ D : Nat, a7 = .pointer (some ⟨D, 0, none⟩) ∧ X < D ∧ D < wc.heap.size ∧ Hid (∀ j, wc.cell? ⟨D, j, none⟩ = #[.int .u16 fa, .int .u16 9, .int .u16 fi, .int .u8 6, .int .u16 fs, .int .u16 443][j]?) ∧ Hid (FxW X w #[.int .i64 kind, .int .i64 a, .int .i64 b, .int .i64 c] wc))
  case first =>
    go_region_held3 (fun w' => w'.cell? ⟨X, 1, none⟩ = some (.int .i64 a) ∧ w'.cell? ⟨X, 2, none⟩ = some (.int .i64 b)) (go_keep) (first | (go_at_call 9; refine (HPA.out _ _ _ (by first | exact .inl ⟨rfl, rfl⟩ | exact .inr (.inl ⟨rfl, rfl⟩) | exact .inr (.inr ⟨rfl, rfl⟩))).mono ?_; rintro e w' ⟨rfl, rfl⟩))
    all_goals (go_wp2_with fail; go_meet)
    all_goals (case rel =>
      go_light
      rw [HU.out.1, HU.out.2.1, HU.out.2.2]
      refine ⟨w1.heap.size, rfl, hX1, by simp, ?_, ((HW0.out.alloc _).drew)⟩
      exact box_cell ((Below.refl (w1.heap.size + 1) (w1.alloc (.cells #[.int .u16 fa, .int .u16 9, .int .u16 fi, .int .u8 6, .int .u16 fs, .int .u16 443] 24))).drew))
  case rest =>
    obtain ⟨D, rfl, hDX, hD, HFL, HWC⟩ := hcut
    obtain ⟨w2, hw2⟩ : ∃ w2, w2 = wc := ⟨_, rfl⟩
    subst hw2
    have x2 := HWC.out.2.2
    have hX2 := HWC.out.2.1
    go_wp2_with fail
    refine (HPK.out _).mono ?_
    rintro e w3 ⟨rfl, rfl⟩
    clear HPK HPA HW0 cX hX1 cA cB HU
    rcases (show kd = 0 ∨ kd = 1 ∨ (kd = 2 ∨ kd = 3 ∨ kd = 4) ∨ kd = 5 ∨ kd = 6 ∨ 7 ≤ kd by omega) with rfl | rfl | hkd | rfl | rfl | hkd
    · go_wp2_with fail
      refine (HT.out _ HWC.out.1).mono ?_
      rintro e w4 ⟨rfl, hq⟩
      have HQ := hide hq
      clear hq
      go_wp2
      go_ret
      exact ⟨0, _, rfl, HWC.out.1, HQ.out⟩
    · go_wp2_with fail
      refine (pick_any b 4 _ hb.1 hb.2 (by decide) (by decide)).mono ?_
      rintro e w4 ⟨rfl, rfl⟩
      go_wp2_with fail
      refine (HL.out _ _ HWC.out.1).mono ?_
      rintro e w5 ⟨ec, rfl, hq⟩
      have HQ := hide hq
      clear hq
      go_wp2
      go_ret
      exact ⟨0, _, rfl, HWC.out.1, HQ.out⟩
    · rcases hkd with rfl | rfl | rfl
      · go_wp2_with fail
        refine (pick_any b 4 _ hb.1 hb.2 (by decide) (by decide)).mono ?_
        rintro e w4 ⟨rfl, rfl⟩
        go_wp2_with fail
        refine (HD.out _ _ HWC.out.1).mono ?_
        rintro e w5 ⟨ec, rfl, hq⟩
        have HQ := hide hq
        clear hq
        go_wp2
        go_ret
        exact ⟨0, _, rfl, HWC.out.1, HQ.out⟩
      · go_wp2_with fail
        refine (pick_any b 4 _ hb.1 hb.2 (by decide) (by decide)).mono ?_
        rintro e w4 ⟨rfl, rfl⟩
        go_wp2_with fail
        refine (HD.out _ _ HWC.out.1).mono ?_
        rintro e w5 ⟨ec, rfl, hq⟩
        have HQ := hide hq
        clear hq
        go_wp2
        go_ret
        exact ⟨0, _, rfl, HWC.out.1, HQ.out⟩
      · go_wp2_with fail
        refine (pick_any b 4 _ hb.1 hb.2 (by decide) (by decide)).mono ?_
        rintro e w4 ⟨rfl, rfl⟩
        go_wp2_with fail
        refine (HD.out _ _ HWC.out.1).mono ?_
        rintro e w5 ⟨ec, rfl, hq⟩
        have HQ := hide hq
        clear hq
        go_wp2
        go_ret
        exact ⟨0, _, rfl, HWC.out.1, HQ.out⟩
    · go_wp2_with fail
      refine (some_any b _ hb.1 hb.2).mono ?_
      rintro e w4 ⟨l, v, rfl, hrow, hnd, hl1, hl6, hlb, hb4⟩
      have HB4 : Hid (Below X w w4) := HWC.out.1.trans (hb4.mono (Nat.le_of_lt HWC.out.2.1))
      obtain ⟨va, vc, rfl, hhas, _, _, _, _⟩ := owns_any hrow
      have HK1 := hide (HK.out l va l.length vc w4 HB4.out rfl hhas hl6 hlb)
      have HK2 := hide (HK.out [] none 0 0 w4 HB4.out rfl ⟨fun _ => rfl, fun h => absurd rfl h⟩ (by omega) (by simp))
      have x4 := (HWC.out.below hb4).2.2
      have hX4 := (HWC.out.below hb4).2.1
      clear hrow hnd hlb hhas hb4 x2 hX2
      go_wp2_with fail
      · refine HK2.out.mono ?_
        rintro e w5 ⟨ec, rfl, hq⟩
        have HQ := hide hq
        clear hq
        go_wp2
        go_ret
        exact ⟨0, _, rfl, HB4.out, HQ.out⟩
      · refine HK1.out.mono ?_
        rintro e w5 ⟨ec, rfl, hq⟩
        have HQ := hide hq
        clear hq
        go_wp2
        go_ret
        exact ⟨0, _, rfl, HB4.out, HQ.out⟩
    · have hp33 := pk_bd c 33 (by decide)
      obtain ⟨n, hn⟩ : ∃ n : Nat, pk c 33 = (n : Int) := Int.eq_ofNat_of_zero_le hp33.1
      have HP33 := hide (fun w => pick_any c 33 w hc.1 hc.2 (by decide) (by decide))
      rw [hn] at HP33 hp33
      have hn32 : n ≤ 32 := by omega
      clear hn
      have HPKT := hide (fun wz (hf : FxW X w #[.int .i64 kind, .int .i64 a, .int .i64 b, .int .i64 c] wz) => (packet_z fa 9 fi 6 fs 443 n false 1 wz hn32).mono (fun e w' he => (show ∃ ao cap, e = .returned (.agg #[.int .u16 fa, .int .u16 9, .int .u8 6, .int .u16 fi, .int .u8 0, .bool false, .int .u16 fs, .int .u16 443, .slice ao n cap]) ∧ Has w' ao (fl 1 n) ∧ (ao = none → cap = 0) ∧ FxW X w #[.int .i64 kind, .int .i64 a, .int .i64 b, .int .i64 c] w' from by
        obtain ⟨ao, cap, h1, h2, h3, h4⟩ := he
        exact ⟨ao, cap, h1, h2, h3, hf.below h4⟩)))
      have HPKD := hide (fun wz ao cap (hh : Has wz ao (fl 1 n)) (hnil : ao = none → cap = 0) (hf : FxW X w #[.int .i64 kind, .int .i64 a, .int .i64 b, .int .i64 c] wz) => (packed_yes fa 9 6 fi 0 false fs 443 ao n cap (fl 1 n) wz (by omega) (by omega) (by omega) (by omega) (by omega) (by omega) (by omega) (by omega) (by omega) (by omega) (by omega) (by omega) (by omega) (by omega) (fl_length 1 n) hnil hh (by simp [wfB]; omega)).mono (fun e w' he => (show ∃ g cv, e = .returned (.slice (some ⟨g, 0, none⟩) (pkL fa 9 6 fi 0 false fs 443 (fl 1 n)).length cv) ∧ w'.ownsRow X 5 1 (.slice (some ⟨g, 0, none⟩) (pkL fa 9 6 fi 0 false fs 443 (fl 1 n)).length cv) (pkL fa 9 6 fi 0 false fs 443 (fl 1 n)).length ((pkL fa 9 6 fi 0 false fs 443 (fl 1 n)).map (Value.int .u8)) ∧ FxW X w #[.int .i64 kind, .int .i64 a, .int .i64 b, .int .i64 c] w' from by
        obtain ⟨g, cv, h1, h2, h3⟩ := he
        exact ⟨g, cv, h1, ownsRow_base h2 (Nat.le_of_lt hf.2.1), hf.below h3⟩)))
      have hpb := pk_bytes fa 9 6 fi 0 false fs 443 (fl 1 n) (by omega) (by omega) (by omega) (by omega) (by omega) (by omega) (by omega) (by omega) (by omega) (by omega) (by omega) (by omega) (by omega) (by omega) (by rw [fl_length]; omega) (fl_bd 1 n)
      have hlen := pkL_len fa 9 6 fi 0 false fs 443 (fl 1 n) (by rw [fl_length]; omega)
      generalize pkL fa 9 6 fi 0 false fs 443 (fl 1 n) = zs at *
      have HZB := hide hpb
      clear hpb
      have HWd := hide HWC.out.drew
      have dfl := HFL.out
      go_upto_region 26 with (fail)
      go_cut [9] (fun a9 wc => ∃ (g cv : Nat), a9 = .slice (some ⟨g, 0, none⟩) zs.length cv ∧ Hid (wc.ownsRow X 5 1 (.slice (some ⟨g, 0, none⟩) zs.length cv) zs.length (zs.map (Value.int .u8))) ∧ Hid (FxW X w #[.int .i64 kind, .int .i64 a, .int .i64 b, .int .i64 c] wc))
      case first =>
        go_region_with (first | (go_at_call 9; refine (HP33.out _).mono ?_; rintro e w' ⟨rfl, rfl⟩) | (go_at_call 10; refine (HPKT.out _ HWd.out).mono ?_; rintro e w6 ⟨ao, cap, rfl, hh6, hnil6, hf6⟩) | (go_at_call 11; refine (HPKD.out _ ao cap hh6 hnil6 hf6).mono ?_; rintro e w7 ⟨g, cv, rfl, hrow7, hf7⟩))
        all_goals (go_wp2_with fail; go_meet)
        all_goals (case rel =>
          go_light
          exact ⟨g, cv, rfl, hrow7, hf7⟩)
      case rest =>
        obtain ⟨g, cv, rfl, HRW, HF7⟩ := hcut
        obtain ⟨w7, hw7⟩ : ∃ w7, w7 = wc := ⟨_, rfl⟩
        subst hw7
        have x7 := HF7.out.2.2
        have hX7 := HF7.out.2.1
        have hgX : X ≤ g := (HRW.out.lt g rfl).1
        have hg7 : g < w7.heap.size := (HRW.out.lt g rfl).2
        obtain ⟨o1, o2, o3, o4⟩ := owns_has HRW.out
        have hpr := pk_bd b N (by omega)
        have HAR := hide (HA.out (pk b N) zs g zs.length cv w7 HF7.out.1 hpr.1 hpr.2 rfl o3 o4 o1 HZB.out hgX)
        have hst := (HRW.out.stored 0 (.int .u8 0)).1
        have hmp : (zs.map (Value.int .u8)).set 0 (.int .u8 0) = (zs.set 0 0).map (Value.int .u8) := by rw [List.map_set]
        rw [hmp] at hst
        have hls : (zs.set 0 0).length = zs.length := List.length_set
        have hB8 : Below X w (w7.setCell ⟨g, 0, none⟩ (.int .u8 0)) := HF7.out.1.setCell hgX _
        have HAR2 := hide (HA.out (pk b N) (zs.set 0 0) g zs.length cv (w7.setCell ⟨g, 0, none⟩ (.int .u8 0)) hB8 hpr.1 hpr.2 hls o3 o4 (owns_has hst).1 (fun z hz => (List.mem_or_eq_of_mem_set hz).elim (HZB.out z) (fun hz => by omega)) hgX)
        have HB8 := hide hB8
        have c00 : ∃ v, w7.cell? ⟨g, 0, none⟩ = some (.int .u8 v) := by
          have := HRW.out.cellAt 0 (by omega)
          rw [this, List.getElem?_map, List.getElem?_eq_getElem (by omega)]
          exact ⟨_, rfl⟩
        obtain ⟨v0, c00⟩ := c00
        have f0 : w7.frozen? ⟨g, 0, none⟩ = false := by obtain ⟨cu, hcu⟩ := own_tag' HRW.out rfl; exact arr_frozen hcu 0
        have hne : X ≠ g := by
          intro hh
          have h1 := HRW.out.cellAt 0 (by omega)
          have h2 := x7 0
          rw [hh] at h2
          rw [c00] at h2
          simp at h2
        have hli : (0 : Int) < (zs.length : Int) := by omega
        have HPN := hide (fun w => pick_any b (N : Int) w hb.1 hb.2 (by omega) (by omega))
        generalize pk b N = pr at *
        clear hst hmp hls hB8 o1 o2 o3 o4 dfl x2 hX2
        generalize zs.length = ln at *
        go_wp2_with fail
        · refine (HPN.out _).mono ?_
          rintro e w8 ⟨rfl, rfl⟩
          go_wp2_with fail
          refine HAR2.out.mono ?_
          rintro e w9 ⟨nx, rfl, hq⟩
          have HQ := hide hq
          clear hq
          go_wp2
          go_ret
          exact ⟨1, _, rfl, HB8.out, HQ.out⟩
        · refine (HPN.out _).mono ?_
          rintro e w8 ⟨rfl, rfl⟩
          go_wp2_with fail
          refine HAR.out.mono ?_
          rintro e w9 ⟨nx, rfl, hq⟩
          have HQ := hide hq
          clear hq
          go_wp2
          go_ret
          exact ⟨1, _, rfl, HF7.out.1, HQ.out⟩
    · have hk0 : (kd == 0) = false := by rw [beq_eq_false_iff_ne]; omega
      have hk1 : (kd == 1) = false := by rw [beq_eq_false_iff_ne]; omega
      have hk2 : (kd == 2) = false := by rw [beq_eq_false_iff_ne]; omega
      have hk3 : (kd == 3) = false := by rw [beq_eq_false_iff_ne]; omega
      have hk4 : (kd == 4) = false := by rw [beq_eq_false_iff_ne]; omega
      have hk5 : (kd == 5) = false := by rw [beq_eq_false_iff_ne]; omega
      have hk6 : (kd == 6) = false := by rw [beq_eq_false_iff_ne]; omega
      go_wp2_with fail
      refine (pick_any b 6 _ hb.1 hb.2 (by decide) (by decide)).mono ?_
      rintro e w4 ⟨rfl, rfl⟩
      have hof := pk_bd b 6 (by decide)
      generalize pk b 6 = off at *
      have hq4 := tdiv_bd c 4 (by decide) hc.1 hc.2
      have hq16 := tdiv_bd c 16 (by decide) hc.1 hc.2
      go_wp2_with fail
      refine (pick_any _ 3 _ hq4.1 hq4.2 (by decide) (by decide)).mono ?_
      rintro e w5 ⟨rfl, rfl⟩
      have hp3 := pk_bd (c.tdiv 4) 3 (by decide)
      generalize pk (c.tdiv 4) 3 = p3 at *
      obtain ⟨n, hn⟩ : ∃ n : Nat, (n : Int) = 4 * (1 + p3) := ⟨(4 * (1 + p3)).toNat, by omega⟩
      have hn12 : 4 ≤ n ∧ n ≤ 12 := by omega
      generalize (bits BinOp.and IntKind.i64 c 3 != 0) = mb at *
      have dfl := HFL.out
      have hD2 : D < w5.heap.size := hD
      by_cases h0 : off = 0
      · subst h0
        go_wp2_with fail
        rw [← hn]
        refine (packet_z fa 9 fi 6 fs 443 n true 1 _ (by omega)).mono ?_
        rintro e w6 ⟨ao, cap, rfl, hh6, hnil, hb6⟩
        have HW6 := hide (HWC.out.below hb6)
        have HH6 := hide (And.intro hh6 hnil)
        clear hh6 hnil hb6 dfl x2 hX2 hD
        go_wp2_with fail
        refine (packed_yes fa 9 6 fi 0 true fs 443 ao n cap (fl 1 n) _ (by omega) (by omega) (by omega) (by omega) (by omega) (by omega) (by omega) (by omega) (by omega) (by omega) (by omega) (by omega) (by omega) (by omega) (fl_length 1 n) HH6.out.2 HH6.out.1 (by simp [wfB]; omega)).mono ?_
        rintro e w7 ⟨g, cv, rfl, hrow, hb7⟩
        have HW7 := hide (HW6.out.below hb7)
        obtain ⟨o1, o2, o3, o4⟩ := owns_has hrow
        have hgX : X ≤ g := Nat.le_trans (Nat.le_of_lt HW6.out.2.1) (hrow.lt g rfl).1
        have hpb := pk_bytes fa 9 6 fi 0 true fs 443 (fl 1 n) (by omega) (by omega) (by omega) (by omega) (by omega) (by omega) (by omega) (by omega) (by omega) (by omega) (by omega) (by omega) (by omega) (by omega) (by rw [fl_length]; omega) (fl_bd 1 n)
        have hpr := pk_bd (c.tdiv 16) N (by omega)
        have HAR := hide (HA.out (pk (c.tdiv 16) N) _ g _ cv w7 HW7.out.1 hpr.1 hpr.2 rfl o3 o4 o1 hpb hgX)
        have x7 := HW7.out.2.2
        have hX7 := HW7.out.2.1
        generalize (pkL fa 9 6 fi 0 true fs 443 (fl 1 n)).length = ln at *
        clear hrow hb7 o1 o2 o3 o4 hpb
        go_wp2_with fail
        refine (pick_any _ (N : Int) _ hq16.1 hq16.2 (by omega) (by omega)).mono ?_
        rintro e w8 ⟨rfl, rfl⟩
        generalize pk (c.tdiv 16) N = pr at *
        go_wp2_with fail
        refine HAR.out.mono ?_
        rintro e w9 ⟨nx, rfl, hq⟩
        have HQ := hide hq
        clear hq
        go_wp2
        go_ret
        exact ⟨1, _, rfl, HW7.out.1, HQ.out⟩
      · have hb0 : (off == 0) = false := by simpa using h0
        go_wp2_with fail
        rw [← hn]
        refine (packet_nz fa 9 fi 6 fs 443 off n mb 1 _ (by omega) (by omega) h0 (by omega)).mono ?_
        rintro e w6 ⟨ao, cap, rfl, hh6, hnil, hb6⟩
        have HW6 := hide (HWC.out.below hb6)
        have HH6 := hide (And.intro hh6 hnil)
        clear hh6 hnil hb6 dfl x2 hX2 hD
        go_wp2_with fail
        refine (packed_yes fa 9 6 fi off mb 0 0 ao n cap (fl 1 n) _ (by omega) (by omega) (by omega) (by omega) (by omega) (by omega) (by omega) (by omega) (by omega) (by omega) (by omega) (by omega) (by omega) (by omega) (fl_length 1 n) HH6.out.2 HH6.out.1 (by cases mb <;> simp [wfB, h0] <;> omega)).mono ?_
        rintro e w7 ⟨g, cv, rfl, hrow, hb7⟩
        have HW7 := hide (HW6.out.below hb7)
        obtain ⟨o1, o2, o3, o4⟩ := owns_has hrow
        have hgX : X ≤ g := Nat.le_trans (Nat.le_of_lt HW6.out.2.1) (hrow.lt g rfl).1
        have hpb := pk_bytes fa 9 6 fi off mb 0 0 (fl 1 n) (by omega) (by omega) (by omega) (by omega) (by omega) (by omega) (by omega) (by omega) (by omega) (by omega) (by omega) (by omega) (by omega) (by omega) (by rw [fl_length]; omega) (fl_bd 1 n)
        have hpr := pk_bd (c.tdiv 16) N (by omega)
        have HAR := hide (HA.out (pk (c.tdiv 16) N) _ g _ cv w7 HW7.out.1 hpr.1 hpr.2 rfl o3 o4 o1 hpb hgX)
        have x7 := HW7.out.2.2
        have hX7 := HW7.out.2.1
        generalize (pkL fa 9 6 fi off mb 0 0 (fl 1 n)).length = ln at *
        clear hrow hb7 o1 o2 o3 o4 hpb
        go_wp2_with fail
        refine (pick_any _ (N : Int) _ hq16.1 hq16.2 (by omega) (by omega)).mono ?_
        rintro e w8 ⟨rfl, rfl⟩
        generalize pk (c.tdiv 16) N = pr at *
        go_wp2_with fail
        refine HAR.out.mono ?_
        rintro e w9 ⟨nx, rfl, hq⟩
        have HQ := hide hq
        clear hq
        go_wp2
        go_ret
        exact ⟨1, _, rfl, HW7.out.1, HQ.out⟩

end Go.Proofs.Ytajphdppmdoalaa
