import Derived.Test.YtajphdppmdoalaaZPCtoQA
namespace Go.Proofs.Ytajphdppmdoalaa
open Go.RowKit
set_option linter.unusedVariables false

set_option maxRecDepth 100000 in
set_option maxHeartbeats 3200000 in
theorem ended_core (N T n cap o : Nat) (replicas life : Int) (ao : Option Addr) (os : List Opp) (w : World) (hr : -9223372036854775808 ≤ replicas ∧ replicas ≤ 9223372036854775807) (hf : -9223372036854775808 ≤ life ∧ life ≤ 9223372036854775807) (hN : 1 + pk replicas 5 = (N : Int)) (hT : 1 + pk life 20 = (T : Int)) (hl : os.length = n) (hn : n ≤ 1048576) (hos : HasO w ao os) (ho : o < N)
    (I : Nat → Nat → World → Prop) (K : Nat → World → Prop) (L : Nat → Nat → Nat → World → Prop) (M : Nat → Nat → Nat → Nat → World → Prop)
    (HB : Hid (∀ wz g cv, Below w.heap.size w wz → Has wz (some ⟨g, 0, none⟩) [7] → Calls Try.prog 16 #[.int .i64 N, .int .i64 T, .slice (some ⟨g, 0, none⟩) 1 cv] wz fun e w' => ∃ xb, e = .returned (.pointer (some ⟨xb, 0, none⟩)) ∧ I xb 0 w'))
    (HIB : Hid (∀ xb i wz, I xb i wz → Below w.heap.size w wz))
    (HID : Hid (∀ xb i wz w', I xb i wz → Below wz.heap.size wz w' → I xb i w'))
    (HP : Hid (∀ xb i p wz, os[i]? = some p → I xb i wz → Calls Try.prog 23 #[.pointer (some ⟨xb, 0, none⟩), .int .i64 N, .agg #[.int .i64 p.kind, .int .i64 p.a, .int .i64 p.b, .int .i64 p.c]] wz fun e w' => ∃ r : Nat, e = .returned (.int .i64 r) ∧ I xb (i + 1) w'))
    (HTK : Hid (∀ xb i wz, i < T → I xb (n + i) wz → Calls Try.prog 25 #[.pointer (some ⟨xb, 0, none⟩)] wz fun e w' => e = .returned (.tuple #[]) ∧ I xb (n + (i + 1)) w'))
    (HH : Hid (∀ xb r wz, r < N → I xb (n + T) wz → Calls Try.prog 22 #[.pointer (some ⟨xb, 0, none⟩), .int .i64 r] wz fun e w' => e = .returned (.tuple #[.agg #[.int .i64 0, .int .i64 0, .int .i64 0], .int .i64 0]) ∧ I xb (n + T) w'))
    (HTA : Hid (∀ xb wz, I xb (n + T) wz → Calls Try.prog 21 #[.pointer (some ⟨xb, 0, none⟩)] wz fun e w' => ∃ v, e = .returned v ∧ K xb w'))
    (HKB : Hid (∀ xb wz w', K xb wz → Below wz.heap.size wz w' → K xb w'))
    (HO : Hid (∀ xb ad cp wz, K xb wz → Calls Try.prog 26 #[.pointer (some ⟨xb, 0, none⟩), .agg #[.int .u16 5, .int .u16 6, .int .u8 0, .int .u16 7, .int .u8 3, .bool false, .int .u16 0, .int .u16 0, .slice ad 8 cp]] wz fun e w' => e = .returned (.int .i64 o) ∧ K xb w' ∧ Below wz.heap.size wz w'))
    (HA : Hid (∀ xb g ln cv wz w1, K xb wz → Below wz.heap.size wz w1 → w1.ownsRow wz.heap.size 5 1 (.slice (some ⟨g, 0, none⟩) ln cv) ln ((pkL 5 6 0 7 3 false 0 0 (fl 1 8)).map (Value.int .u8)) → Calls Try.prog 19 #[.pointer (some ⟨xb, 0, none⟩), .int .i64 o, .slice (some ⟨g, 0, none⟩) ln cv] w1 fun e w' => ∃ seq : Nat, e = .returned (.tuple #[.int .i64 seq, .int .i64 0]) ∧ seq ≤ 2000000000000 ∧ L xb seq 0 w'))
    (HLT : Hid (∀ xb seq i wz, i < T → L xb seq i wz → Calls Try.prog 25 #[.pointer (some ⟨xb, 0, none⟩)] wz fun e w' => e = .returned (.tuple #[]) ∧ L xb seq (i + 1) w'))
    (HLA : Hid (∀ xb seq wz, L xb seq (T - 1) wz → Calls Try.prog 21 #[.pointer (some ⟨xb, 0, none⟩)] wz fun e w' => ∃ ad cp, e = .returned (.slice ad 0 cp) ∧ L xb seq (T - 1) w'))
    (HLH : Hid (∀ xb seq wz, L xb seq (T - 1) wz → Calls Try.prog 22 #[.pointer (some ⟨xb, 0, none⟩), .int .i64 o] wz fun e w' => e = .returned (.tuple #[.agg #[.int .i64 1, .int .i64 1, .int .i64 8], .int .i64 0]) ∧ L xb seq (T - 1) w'))
    (HLG : Hid (∀ xb seq wz w' g, L xb seq (T - 1) wz → Below wz.heap.size wz w' → wz.heap.size ≤ g → g < w'.heap.size → M xb seq g (T - 1) w'))
    (HMT : Hid (∀ xb seq g wz, M xb seq g (T - 1) wz → Calls Try.prog 25 #[.pointer (some ⟨xb, 0, none⟩)] wz fun e w' => e = .returned (.tuple #[]) ∧ M xb seq g T w' ∧ ∀ j, w'.cell? ⟨g, j, none⟩ = wz.cell? ⟨g, j, none⟩))
    (HML : Hid (∀ xb seq gb wz, M xb seq gb T wz → Calls Try.prog 21 #[.pointer (some ⟨xb, 0, none⟩)] wz fun e w' => ∃ g cp, e = .returned (.slice (some ⟨g, 0, none⟩) 1 cp) ∧ g < w'.heap.size ∧ w'.cell? ⟨g, 0, none⟩ = some (.int .i64 seq) ∧ w'.cell? ⟨g, 1, none⟩ = some (.int .u8 6) ∧ w'.cell? ⟨g, 2, none⟩ = some (.int .u8 0) ∧ Below w.heap.size w w' ∧ ∀ j, w'.cell? ⟨gb, j, none⟩ = wz.cell? ⟨gb, j, none⟩)) :
    Calls Try.prog 8 #[.slice ao n cap, .int .i64 replicas, .int .i64 life] w fun e w' => e = .returned (.bool true) ∧ Below w.heap.size w w' := by
  have hN1 : 1 ≤ N ∧ N ≤ 5 := by have := pk_bd replicas 5 (by decide); omega
  have hT1 : 1 ≤ T ∧ T ≤ 20 := by have := pk_bd life 20 (by decide); omega
  have HPN := hide (fun w => pick_any replicas 5 w hr.1 hr.2 (by decide) (by decide))
  have HPT := hide (fun w => pick_any life 20 w hf.1 hf.2 (by decide) (by decide))
  go_enter Try.func8, Try.ntmps8
  go_wp2_with fail
  refine (HPN.out _).mono ?_
  rintro e w1 ⟨rfl, rfl⟩
  have hNw : IntKind.i64.wrap (1 + pk replicas 5) = (N : Int) := by rw [hN, IntKind.wrap_i64]; omega
  have hTw : IntKind.i64.wrap (1 + pk life 20) = (T : Int) := by rw [hT, IntKind.wrap_i64]; omega
  generalize pk replicas 5 = rp at *
  go_wp2_with fail
  refine (HPT.out _).mono ?_
  rintro e w1 ⟨rfl, rfl⟩
  generalize pk life 20 = lp at *
  go_wp2_with fail
  have hX := Nat.le_refl w1.heap.size
  refine (HB.out _ _ _ ((Below.refl _ _).alloc (Nat.le_refl _) _) ⟨by simp, fun _ => ⟨_, _, rfl, by simp, fun j hj => by
    obtain rfl : j = 0 := by simpa using hj
    exact arr_cell (heap_alloc_new _ _) 0⟩⟩).mono ?_
  rintro e w2 ⟨xb, rfl, hI⟩
  have HI := hide hI
  clear hI HB HPN HPT hX
  go_wp2_with fail
  go_loopw [10] (fun i10 wr => ∃ i : Nat, i ≤ n ∧ i10 = .int .i64 i ∧ Hid (I xb i wr)) (fun i10 _ => n - (intOf i10).toNat)
  case atStart => exact ⟨0, by omega, rfl, HI.out⟩
  case round =>
    obtain ⟨i, hi, rfl, HI⟩ := hrel
    by_cases hlt : i < n
    · have hol : i < os.length := by omega
      obtain ⟨p, hp⟩ : ∃ p, os[i]? = some p := ⟨_, List.getElem?_eq_getElem hol⟩
      obtain ⟨b, f, rfl, hbl, hcs⟩ := hos.2 (by rintro rfl; simp at hol)
      obtain ⟨q0, q1, q2, q3⟩ := hcs i p hp
      have hbw := HIB.out xb i wr HI.out
      have s0 := (hbw.cell (p := ⟨b, f + i * 4, none⟩) hbl).trans q0
      have s1 := (hbw.cell (p := ⟨b, f + i * 4 + 1, none⟩) hbl).trans q1
      have s2 := (hbw.cell (p := ⟨b, f + i * 4 + 2, none⟩) hbl).trans q2
      have s3 := (hbw.cell (p := ⟨b, f + i * 4 + 3, none⟩) hbl).trans q3
      have HPL := hide (HP.out xb i p wr hp HI.out)
      generalize p.kind = pk0 at *
      generalize p.a = pk1 at *
      generalize p.b = pk2 at *
      generalize p.c = pk3 at *
      clear q0 q1 q2 q3 hbw
      have i1 : (i : Int) < (n : Int) := by omega
      go_wp2_with fail
      refine HPL.out.mono ?_
      rintro e w3 ⟨r, rfl, hI3⟩
      have HI3 := hide hI3
      clear hI3 s0 s1 s2 s3 HPL
      go_wp2
      go_roundw
      case rel => exact ⟨i + 1, by omega, by go_num, HI3.out⟩
      case measure => simp [intOf]; omega
    · obtain rfl : i = n := by omega
      go_wp2_with fail
      go_loopw [11] (fun i11 wr => ∃ j : Nat, j ≤ T ∧ i11 = .int .i64 j ∧ Hid (I xb (i + j) wr)) (fun i11 _ => T - (intOf i11).toNat)
      case atStart => exact ⟨0, by omega, rfl, HI.out⟩
      case round =>
        obtain ⟨j, hj, rfl, HJ⟩ := hrel
        by_cases hjt : j < T
        · have HTJ := hide (HTK.out xb j wr hjt HJ.out)
          have i1 : (j : Int) < (T : Int) := by omega
          go_wp2_with fail
          refine HTJ.out.mono ?_
          rintro e w3 ⟨rfl, hI3⟩
          have HI3 := hide hI3
          clear hI3 HTJ
          go_wp2
          go_roundw
          case rel => exact ⟨j + 1, by omega, by go_num, HI3.out⟩
          case measure => simp [intOf]; omega
        · obtain rfl : j = T := by omega
          go_wp2_with fail
          go_loopw [12] (fun i12 wr => ∃ r : Nat, r ≤ N ∧ i12 = .int .i64 r ∧ Hid (I xb (i + j) wr)) (fun i12 _ => N - (intOf i12).toNat)
          case atStart => exact ⟨0, by omega, rfl, HJ.out⟩
          case round =>
            obtain ⟨r, hrN, rfl, HJR⟩ := hrel
            by_cases hrl : r < N
            · have HTH := hide (HH.out xb r wr hrl HJR.out)
              have i1 : (r : Int) < (N : Int) := by omega
              go_wp2_with fail
              refine HTH.out.mono ?_
              rintro e w3 ⟨rfl, hI3⟩
              have HI3 := hide hI3
              clear hI3 HTH
              go_wp2
              go_roundw
              case rel => exact ⟨r + 1, by omega, by go_num, HID.out _ _ _ _ HI3.out ((Below.refl _ _).alloc (Nat.le_refl _) _)⟩
              case measure => simp [intOf]; omega
            · obtain rfl : r = N := by omega
              have HTT := hide (HTA.out xb wr HJR.out)
              go_wp2_with fail
              refine HTT.out.mono ?_
              rintro e w4 ⟨v4, rfl, hK4⟩
              have HK4 := hide hK4
              clear hK4 HTT
              go_wp2_with fail
              refine (packet_nz 5 6 7 0 0 0 3 8 false 1 _ (by omega) (by omega) (by omega) (by omega)).mono ?_
              rintro e w5 ⟨ad, cp, rfl, hh5, hn5, hb5⟩
              have HH5 := hide (And.intro (hh5.below ((Below.refl _ _).alloc (Nat.le_refl w5.heap.size) (.cells #[.int .u16 5, .int .u16 6, .int .u8 0, .int .u16 7, .int .u8 3, .bool false, .int .u16 0, .int .u16 0, .slice ad 8 cp] 28))) hn5)
              have HK5 := hide (HKB.out _ _ _ (HKB.out _ _ _ HK4.out hb5) ((Below.refl _ _).alloc (Nat.le_refl w5.heap.size) (.cells #[.int .u16 5, .int .u16 6, .int .u8 0, .int .u16 7, .int .u8 3, .bool false, .int .u16 0, .int .u16 0, .slice ad 8 cp] 28)))
              clear hh5 hn5 hb5 HK4
              have HOW := hide (HO.out xb ad cp _ HK5.out)
              go_wp2_with fail
              refine HOW.out.mono ?_
              rintro e w6 ⟨rfl, hK6, hb6⟩
              have HK6 := hide hK6
              have HH6 := hide (HH5.out.1.below hb6)
              have HN6 := hide HH5.out.2
              have cP := box_cell (w := w5) (by simpa using hb6)
              have hz6 : w5.heap.size < w6.heap.size := by have := hb6.size; simp at this; omega
              have i1 : (o : Int) < (r : Int) := by omega
              generalize w5.heap.size = X5 at *
              clear hK6 hb6 HOW HH5 HK5
              go_wp2_with fail
              refine (packed_yes 5 6 0 7 3 false 0 0 ad 8 cp (fl 1 8) _ (by omega) (by omega) (by omega) (by omega) (by omega) (by omega) (by omega) (by omega) (by omega) (by omega) (by omega) (by omega) (by omega) (by omega) (fl_length 1 8) HN6.out HH6.out (by simp [wfB])).mono ?_
              rintro e w7 ⟨g, cv, rfl, hrow, hb7⟩
              have HAR := hide (HA.out xb g _ cv w6 w7 HK6.out hb7 hrow)
              generalize (pkL 5 6 0 7 3 false 0 0 (fl 1 8)).length = ln at *
              clear hrow hb7 HH6 HN6 HK6 cP hz6
              go_wp2_with fail
              refine HAR.out.mono ?_
              rintro e w8 ⟨seq, rfl, hseq, hL8⟩
              have HL8 := hide hL8
              clear hL8 HAR
              go_wp2_with fail
              go_loopw [20] (fun i20 wr => ∃ q : Nat, q + 1 ≤ j ∧ i20 = .int .i64 q ∧ Hid (L xb seq q wr)) (fun i20 _ => j - (intOf i20).toNat)
              case atStart => exact ⟨0, by omega, rfl, HL8.out⟩
              case round =>
                obtain ⟨q, hq, rfl, HLQ⟩ := hrel
                by_cases hqj : q + 1 < j
                · have HTQ := hide (HLT.out xb seq q wr (by omega) HLQ.out)
                  have i1 : ((q : Int) + 1) < (j : Int) := by omega
                  go_wp2_with fail
                  refine HTQ.out.mono ?_
                  rintro e w9 ⟨rfl, hI9⟩
                  have HI9 := hide hI9
                  clear hI9 HTQ
                  go_wp2
                  go_roundw
                  case rel => exact ⟨q + 1, by omega, by go_num, HI9.out⟩
                  case measure => simp [intOf]; omega
                · obtain rfl : q = j - 1 := by omega
                  have HE := hide (HLA.out xb seq wr HLQ.out)
                  have i2 : ¬ (((j - 1 : Nat) : Int) + 1) < (j : Int) := by omega
                  go_wp2_with fail
                  refine HE.out.mono ?_
                  rintro e w9 ⟨ad9, cp9, rfl, hL9⟩
                  have HE2 := hide (HLH.out xb seq w9 hL9)
                  clear hL9 HE
                  go_wp2_with fail
                  refine HE2.out.mono ?_
                  rintro e w10 ⟨rfl, hL10⟩
                  have HMG := hide (HLG.out xb seq w10 _ w10.heap.size hL10 ((Below.refl _ _).alloc (Nat.le_refl _) (.cells #[.int .i64 1, .int .i64 1, .int .i64 8] 58)) (Nat.le_refl _) (by simp))
                  have HE3 := hide (HMT.out xb seq _ _ HMG.out)
                  clear hL10 HE2 HMG
                  go_wp2_with fail
                  refine HE3.out.mono ?_
                  rintro e w11 ⟨rfl, hM11, hc11⟩
                  have HE4 := hide (HML.out xb seq _ _ hM11)
                  have c11 : ∀ jj, w11.cell? ⟨w10.heap.size, jj, none⟩ = #[.int .i64 1, .int .i64 1, .int .i64 8][jj]? := fun jj => (hc11 jj).trans (arr_cell (heap_alloc_new _ _) jj)
                  clear hM11 hc11 HE3
                  generalize w10.heap.size = X10 at *
                  go_wp2_with fail
                  refine HE4.out.mono ?_
                  rintro e w12 ⟨g12, cp12, rfl, hg12, e0, e1, e2, hb12, hc12⟩
                  have c12 : ∀ jj, w12.cell? ⟨X10, jj, none⟩ = #[.int .i64 1, .int .i64 1, .int .i64 8][jj]? := fun jj => (hc12 jj).trans (c11 jj)
                  have HB12 := hide hb12
                  clear hb12 hc12 c11 HE4
                  go_wp2
                  go_ret
                  exact ⟨rfl, HB12.out⟩

end Go.Proofs.Ytajphdppmdoalaa

namespace Go.Proofs.Ytajphdppmdoalaa
open Go.RowKit
set_option linter.unusedVariables false

theorem ticks_one (S : Cl) (n : Nat) : tickM (ticksM S n) = ticksM S (n + 1) := rfl
theorem take_same (S : Cl) (h : S.evs = []) : takeM S = S := by
  obtain ⟨reps, life, now, next, slots, ents, sent, evs⟩ := S
  simp only at h
  subst h
  rfl
theorem wf_ended : wfB 3 false 0 0 (fl 1 8).length = true := by rw [fl_length]; rfl
theorem up_ended : upK (pkL 5 6 0 7 3 false 0 0 (fl 1 8)) = some ⟨5, 6, 0, 7, 3, false, 0, 0, 8⟩ := by
  have := upK_pk 5 6 0 7 3 false 0 0 (fl 1 8) (by omega) (by omega) (by omega) (by omega) (by omega) (by omega) (by omega) (by omega) (by omega) (by omega) (by omega) (by omega) (by omega) (by omega) wf_ended
  rw [fl_length] at this
  exact this
theorem by_ended : ∀ z ∈ pkL 5 6 0 7 3 false 0 0 (fl 1 8), 0 ≤ z ∧ z ≤ 255 :=
  pk_bytes 5 6 0 7 3 false 0 0 (fl 1 8) (by omega) (by omega) (by omega) (by omega) (by omega) (by omega) (by omega) (by omega) (by omega) (by omega) (by omega) (by omega) (by omega) (by omega) (by rw [fl_length]; omega) (fl_bd 1 8)

/-- Behind some steps of the script, or behind all and some ticks. -/
def EndI (w : World) (N T n : Nat) (xb i : Nat) (wz : World) : Prop := ∃ S, Good S ∧ S.reps = (N : Int) ∧ S.life = (T : Int) ∧ S.next ≤ n ∧ S.next ≤ i ∧ 0 ≤ S.now ∧ S.now ≤ n ∧ S.now ≤ i ∧ At w (fun _ => False) xb (ticksM S (i - n)) wz
def EndK (w : World) (N T n : Nat) (xb : Nat) (wz : World) : Prop := ∃ S, Good S ∧ S.reps = (N : Int) ∧ S.life = (T : Int) ∧ S.next ≤ n ∧ S.now ≤ (n : Int) + 20 ∧ S.ents = [] ∧ S.evs = [] ∧ At w (fun _ => False) xb S wz
def EndL (w : World) (N T n o : Nat) (xb seq i : Nat) (wz : World) : Prop := ∃ S, Good S ∧ S.reps = (N : Int) ∧ S.life = (T : Int) ∧ S.now ≤ (n : Int) + 20 ∧ S.ents = [⟨(o : Int), 5, 6, 0, 7, S.now, [⟨seq, 12, 20, true, true⟩], false, 0⟩] ∧ S.evs = [] ∧ At w (fun _ => False) xb (ticksM S i) wz
def EndM (w : World) (N T n o : Nat) (xb seq g i : Nat) (wz : World) : Prop := ∃ S, Good S ∧ S.reps = (N : Int) ∧ S.life = (T : Int) ∧ S.now ≤ (n : Int) + 20 ∧ S.ents = [⟨(o : Int), 5, 6, 0, 7, S.now, [⟨seq, 12, 20, true, true⟩], false, 0⟩] ∧ S.evs = [] ∧ At w (fun k => k = g) xb (ticksM S i) wz

theorem end_young (S : Cl) (o seq : Nat) (N T : Nat) (hr : S.reps = (N : Int)) (ho : o < N) (hl : S.life = (T : Int)) (hT : 1 ≤ T) (he : S.ents = [⟨(o : Int), 5, 6, 0, 7, S.now, [⟨seq, 12, 20, true, true⟩], false, 0⟩]) (hv : S.evs = []) :
    ticksM S (T - 1) = { S with now := S.now + (T - 1 : Nat) } ∧ (ticksM S T).evs = [⟨seq, 6, 0⟩] := by
  obtain ⟨h1, h2, h3⟩ := alone_ends S _ seq 12 20 true T he rfl rfl hl hT ⟨by simp, by rw [hr]; simp; omega⟩
  refine ⟨h1, ?_⟩
  obtain ⟨t, rfl⟩ : ∃ t, T = t + 1 := ⟨T - 1, by omega⟩
  simp only [Nat.add_sub_cancel] at h1 h2
  rw [ticksM, h1, h2, hv]
  rfl

theorem ended_any (n cap : Nat) (replicas life : Int) (ao : Option Addr) (os : List Opp) (w : World) (hr : -9223372036854775808 ≤ replicas ∧ replicas ≤ 9223372036854775807) (hf : -9223372036854775808 ≤ life ∧ life ≤ 9223372036854775807) (hl : os.length = n) (hn : n ≤ 1048576) (hos : HasO w ao os) (hok : ∀ o ∈ os, o.ok) :
    Calls Try.prog 8 #[.slice ao n cap, .int .i64 replicas, .int .i64 life] w fun e w' => e = .returned (.bool true) ∧ Below w.heap.size w w' := by
  have b1 := pk_bd replicas 5 (by decide)
  have b2 := pk_bd life 20 (by decide)
  obtain ⟨N, hN⟩ := Int.eq_ofNat_of_zero_le (show 0 ≤ 1 + pk replicas 5 by omega)
  obtain ⟨T, hT⟩ := Int.eq_ofNat_of_zero_le (show 0 ≤ 1 + pk life 20 by omega)
  have hN1 : 1 ≤ N ∧ N ≤ 5 := by omega
  have hT1 : 1 ≤ T ∧ T ≤ 20 := by omega
  have hdm := Int.emod_nonneg (dgH 5 6 0 7) (show (N : Int) ≠ 0 by omega)
  have hdl := Int.emod_lt_of_pos (dgH 5 6 0 7) (show (0 : Int) < (N : Int) by omega)
  obtain ⟨o, ho⟩ := Int.eq_ofNat_of_zero_le hdm
  have hoN : o < N := by omega
  refine ended_core N T n cap o replicas life ao os w hr hf hN hT hl hn hos hoN (EndI w N T n) (EndK w N T n) (EndL w N T n o) (EndM w N T n o)
    (hide ?_) (hide ?_) (hide ?_) (hide ?_) (hide ?_) (hide ?_) (hide ?_) (hide ?_) (hide ?_) (hide ?_) (hide ?_) (hide ?_) (hide ?_) (hide ?_) (hide ?_) (hide ?_)
  · intro wz g cv hbz hh
    refine (at_begun N T [7] (some ⟨g, 0, none⟩) 1 cv w wz hbz hN1.1 hN1.2 (by omega) (by omega) rfl hh (by omega) (by simp) (by rw [tE_nd [7] rfl (by simp) (by simp) (by simp)]; decide)).mono ?_
    rintro e w' ⟨xb, rfl, h1, h2⟩
    refine ⟨xb, rfl, backM (Cl.new N T) (tblOf [7]), good_back _ _ (good_new N T (by omega) (by omega) (by omega)) (tblOf_len _) (tbl_bd' _), rfl, rfl, Nat.zero_le _, Nat.zero_le _, Int.le_refl _, ?_, Int.le_refl _, ?_⟩
    · show (0 : Int) ≤ _
      omega
    · rw [Nat.zero_sub]
      exact h1.less (fun _ h => h.elim)
  · rintro xb i wz ⟨S, _, _, _, _, _, _, _, _, h⟩
    exact h.bel
  · rintro xb i wz w' ⟨S, h1, h2, h3, h4, h5, h6, h7, h8, h⟩ hb
    exact ⟨S, h1, h2, h3, h4, h5, h6, h7, h8, h.below hb⟩
  · rintro xb i p wz hp ⟨S, h1, h2, h3, h4, h5, h6, h7, h8, h⟩
    have hin : i < n := by
      rw [← hl]
      exact (List.getElem?_eq_some_iff.1 hp).1
    rw [show i - n = 0 by omega] at h
    obtain ⟨k1, k2, k3, k4⟩ := hok p (List.mem_of_getElem? hp)
    refine (at_play xb N S _ p.kind p.a p.b p.c w wz h h1 h2 (by omega) (by omega) k1 k2 k3 k4).mono ?_
    rintro e w' ⟨S', r, rfl, a1, a2, a3⟩
    have q1 := a3.next
    have q2 := a3.few
    have q3 := a3.now
    refine ⟨r, rfl, S', a3.good, a3.reps.trans h2, a3.life.trans h3, by omega, by omega, by omega, by omega, by omega, ?_⟩
    rw [show i + 1 - n = 0 by omega]
    exact a1
  · rintro xb i wz hi ⟨S, h1, h2, h3, h4, h5, h6, h7, h8, h⟩
    rw [show n + i - n = i by omega] at h
    refine (at_tick xb _ _ w wz h (good_ticks S i h1 (by omega)).sml).mono ?_
    rintro e w' ⟨rfl, a1, a2⟩
    refine ⟨rfl, S, h1, h2, h3, h4, by omega, h6, h7, by omega, ?_⟩
    rw [show n + (i + 1) - n = i + 1 by omega]
    exact a1
  · rintro xb r wz hr' ⟨S, h1, h2, h3, h4, h5, h6, h7, h8, h⟩
    rw [show n + T - n = T by omega] at h
    have hno := ticks_none S T h1.born (by rw [h3]; omega) (by omega)
    obtain ⟨e1, e2, e3⟩ := held_nil _ hno (r : Int)
    refine (at_held xb r _ _ w wz h (good_ticks S T h1 (by omega)).sml (by rw [(ticks_now S T).2.2.1, h2]; omega)).mono ?_
    rintro e w' ⟨rfl, a1, a2⟩
    refine ⟨by rw [e1, e2, e3]; rfl, S, h1, h2, h3, h4, h5, h6, h7, h8, ?_⟩
    rw [show n + T - n = T by omega]
    exact a1
  · rintro xb wz ⟨S, h1, h2, h3, h4, h5, h6, h7, h8, h⟩
    rw [show n + T - n = T by omega] at h
    have hno := ticks_none S T h1.born (by rw [h3]; omega) (by omega)
    have hnw := ticks_now S T
    refine (at_take xb _ _ w wz h).mono ?_
    rintro e w' ⟨v, rfl, a1, a2, a3, a4⟩
    refine ⟨v, rfl, takeM (ticksM S T), good_take _ (good_ticks S T h1 (by omega)), hnw.2.2.1.trans h2, hnw.2.1.trans h3, ?_, ?_, hno, rfl, a1.less (fun _ hh => hh.elim)⟩
    · show (ticksM S T).next ≤ n
      rw [hnw.2.2.2.2.2]
      exact h4
    · show (ticksM S T).now ≤ _
      rw [hnw.1]
      omega
  · rintro xb wz w' ⟨S, h1, h2, h3, h4, h5, h6, h7, h⟩ hb
    exact ⟨S, h1, h2, h3, h4, h5, h6, h7, h.below hb⟩
  · rintro xb ad cp wz ⟨S, h1, h2, h3, h4, h5, h6, h7, h⟩
    refine (at_owner xb S _ 5 6 0 7 3 false 0 0 ad 8 cp w wz h h1.sml (by omega) (by omega) (by omega) (by omega) (by omega) (by omega) (by omega) (by omega) (by omega) (by omega) (by omega) (by omega) (by omega) (by omega)).mono ?_
    rintro e w' ⟨rfl, a1, a2⟩
    exact ⟨by rw [h2, ho], ⟨S, h1, h2, h3, h4, h5, h6, h7, a1⟩, a2⟩
  · rintro xb g ln cv wz w1 ⟨S, h1, h2, h3, h4, h5, h6, h7, h⟩ hb hrow
    obtain ⟨o1, o2, o3, o4⟩ := owns_has hrow
    have hlt := hrow.lt g rfl
    have hA := h.plus hb g hlt.1 hlt.2
    have hown : ownerM S ⟨5, 6, 0, 7, 3, false, 0, 0, 8⟩ = (o : Int) := by
      unfold ownerM
      rw [h2]
      exact ho
    refine (at_arrive xb S _ o _ g ln cv w w1 hA h1.sml h1.uq (by omega) (by omega) (by rw [h2]; omega) o2 o3 o4 o1 by_ended (.inr rfl)).mono ?_
    rintro e w' ⟨rfl, a1, a2⟩
    rw [up_ended] at a1
    have hgd := good_arrive S o (some ⟨5, 6, 0, 7, 3, false, 0, 0, 8⟩) h1 (by omega) (fun p hp => upK_ok _ by_ended p (by rw [up_ended]; exact hp))
    have har := arrive_alone S ⟨5, 6, 0, 7, 3, false, 0, 0, 8⟩ h6 (by decide) (by decide)
    rw [hown] at har
    rw [har] at a1 hgd
    exact ⟨S.next, rfl, by omega, _, hgd, h2, h3, h5, rfl, h7, a1.less (fun _ hh => hh.elim)⟩
  · rintro xb seq i wz hi ⟨S, h1, h2, h3, h4, h5, h6, h⟩
    refine (at_tick xb _ _ w wz h (good_ticks S i h1 (by omega)).sml).mono ?_
    rintro e w' ⟨rfl, a1, a2⟩
    exact ⟨rfl, S, h1, h2, h3, h4, h5, h6, a1⟩
  · rintro xb seq wz ⟨S, h1, h2, h3, h4, h5, h6, h⟩
    have hy := end_young S o seq N T h2 hoN h3 hT1.1 h5 h6
    refine (at_take xb _ _ w wz h).mono ?_
    rintro e w' ⟨v, rfl, a1, a2, a3, a4⟩
    have hev : (ticksM S (T - 1)).evs = [] := by rw [hy.1]; exact h6
    rw [take_same _ hev] at a1
    rw [hev] at a3
    rcases own_shaped a3 with ⟨rfl, _⟩ | ⟨g, cp, rfl⟩
    · exact ⟨none, 0, rfl, S, h1, h2, h3, h4, h5, h6, a1.less (fun _ hh => hh.elim)⟩
    · exact ⟨_, cp, rfl, S, h1, h2, h3, h4, h5, h6, a1.less (fun _ hh => hh.elim)⟩
  · rintro xb seq wz ⟨S, h1, h2, h3, h4, h5, h6, h⟩
    have hy := end_young S o seq N T h2 hoN h3 hT1.1 h5 h6
    have hsm := (good_ticks S (T - 1) h1 (by omega)).sml
    have hen : (ticksM S (T - 1)).ents = S.ents := by rw [hy.1]
    have e0 : entsM (ticksM S (T - 1)) (o : Int) = S.ents := by
      unfold entsM
      rw [hen, h5]
      simp
    have e1 : (entsM (ticksM S (T - 1)) (o : Int)).length = 1 := by rw [e0, h5]; rfl
    have e2 : heldN (ticksM S (T - 1)) (o : Int) = 1 := by unfold heldN; rw [e0, h5]; rfl
    have e3 : heldB (ticksM S (T - 1)) (o : Int) = 8 := by unfold heldB; rw [e0, h5]; rfl
    refine (at_held xb o _ _ w wz h hsm (by rw [(ticks_now S (T - 1)).2.2.1, h2]; omega)).mono ?_
    rintro e w' ⟨rfl, a1, a2⟩
    exact ⟨by rw [e1, e2, e3]; rfl, S, h1, h2, h3, h4, h5, h6, a1⟩
  · rintro xb seq wz w' g ⟨S, h1, h2, h3, h4, h5, h6, h⟩ hb hg1 hg2
    exact ⟨S, h1, h2, h3, h4, h5, h6, (h.plus hb g hg1 hg2).less (fun k hk => .inr hk)⟩
  · rintro xb seq g wz ⟨S, h1, h2, h3, h4, h5, h6, h⟩
    have hgl := h.lt g rfl
    refine (at_tick xb _ _ w wz h (good_ticks S (T - 1) h1 (by omega)).sml).mono ?_
    rintro e w' ⟨rfl, a1, a2⟩
    rw [ticks_one, show T - 1 + 1 = T by omega] at a1
    exact ⟨rfl, ⟨S, h1, h2, h3, h4, h5, h6, a1⟩, fun j => a2.cell (p := ⟨g, j, none⟩) hgl rfl⟩
  · rintro xb seq gb wz ⟨S, h1, h2, h3, h4, h5, h6, h⟩
    have hgl := h.lt gb rfl
    have hy := end_young S o seq N T h2 hoN h3 hT1.1 h5 h6
    refine (at_take xb _ _ w wz h).mono ?_
    rintro e w' ⟨v, rfl, a1, a2, a3, a4⟩
    rw [hy.2] at a3
    have a3' : w'.ownsRow w.heap.size 56 3 v 1 [.int .i64 seq, .int .u8 6, .int .u8 0] := a3
    rcases own_shaped a3' with ⟨_, hx⟩ | ⟨g, cp, rfl⟩
    · cases hx
    · exact ⟨g, cp, rfl, (a3'.lt g rfl).2, a3'.cellAt 0 (by decide), a3'.cellAt 1 (by decide), a3'.cellAt 2 (by decide), a1.bel, fun j => a2.cell (p := ⟨gb, j, none⟩) hgl rfl⟩

end Go.Proofs.Ytajphdppmdoalaa
