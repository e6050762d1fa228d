import Derived.Test.YtajphdppmdoalabZQKtoQL
import Derived.Test.YtajphdppmdoalabZJ1toLO
namespace Go.Proofs.Ytajphdppmdoalab
open Go.RowKit
set_option linter.unusedVariables false

set_option maxRecDepth 100000 in
set_option maxHeartbeats 1600000 in
theorem apart_core (src dst id proto sport dport tail replicas backends : Int) (zs : List Int) (n cap N o a : Nat) (ao : Option Addr) (w : World) (hl : zs.length = n) (hz : ∀ z ∈ zs, -9223372036854775808 ≤ z ∧ z ≤ 9223372036854775807) (hd : HasZ w ao zs) (hn : n ≤ 9223372036854775807) (ht : -9223372036854775808 ≤ tail ∧ tail ≤ 9223372036854775807) (hbk : -9223372036854775808 ≤ backends ∧ backends ≤ 9223372036854775807) (hrp : -9223372036854775808 ≤ replicas ∧ replicas ≤ 9223372036854775807) (hN : 2 + pk replicas 4 = (N : Int)) (hoN : o < N) (haN : (o + 1) % N = a)
    (tof : List Int → Int) (Z : List Int → Nat → World → Prop) (I Y : List Int → Nat → Nat → Nat → List PV → Nat → World → Prop) (J U : List Int → Nat → Nat → Nat → List PV → Nat → Nat → World → Prop) (V : Nat → World → Prop)
    (HB : Hid (∀ l va vc wz, Below w.heap.size w wz → BkOK l → Has wz va l → Calls Try.prog 6 #[.int .i64 N, .int .i64 9, .slice va l.length vc] wz fun e w' => ∃ xb, e = .returned (.pointer (some ⟨xb, 0, none⟩)) ∧ Z l xb w' ∧ Below wz.heap.size wz w'))
    (HZ : Hid (∀ l xb wz w1 g cv L, Z l xb wz → Below wz.heap.size wz w1 → PkL w1 wz.heap.size (.slice (some ⟨g, 0, none⟩) L.length cv) L → DgOK src dst id proto sport dport 7 tail L → I l wz.heap.size g cv L xb w1))
    (HIP : Hid (∀ l base g cv L xb wz, I l base g cv L xb wz → PkL wz base (.slice (some ⟨g, 0, none⟩) L.length cv) L ∧ g < wz.heap.size))
    (HJP : Hid (∀ l base g cv L xb i wz, J l base g cv L xb i wz → PkL wz base (.slice (some ⟨g, 0, none⟩) L.length cv) L ∧ g < wz.heap.size))
    (HPD : Hid (∀ L x base wz, DgOK src dst id proto sport dport 7 tail L → x ∈ L → PVok wz base x → Calls Try.prog 10 #[.agg #[.int .u16 x.p.src, .int .u16 x.p.dst, .int .u8 x.p.proto, .int .u16 x.p.id, .int .u8 x.p.off, .bool x.p.more, .int .u16 x.p.sport, .int .u16 x.p.dport, .slice x.ao x.p.dlen x.cap]] wz fun e w' => ∃ g cv, e = .returned (.slice (some ⟨g, 0, none⟩) x.bytes.length cv) ∧ w'.ownsRow wz.heap.size 5 1 (.slice (some ⟨g, 0, none⟩) x.bytes.length cv) x.bytes.length (x.bytes.map (Value.int .u8)) ∧ Below wz.heap.size wz w'))
    (HOW : Hid (∀ l base g cv L xb x wz, L[0]? = some x → I l base g cv L xb wz → Calls Try.prog 15 #[.pointer (some ⟨xb, 0, none⟩), .agg #[.int .u16 x.p.src, .int .u16 x.p.dst, .int .u8 x.p.proto, .int .u16 x.p.id, .int .u8 x.p.off, .bool x.p.more, .int .u16 x.p.sport, .int .u16 x.p.dport, .slice x.ao x.p.dlen x.cap]] wz fun e w' => e = .returned (.int .i64 o) ∧ I l base g cv L xb w'))
    (HCH : Hid (∀ l base g cv L xb x wz, L[0]? = some x → I l base g cv L xb wz → Calls Try.prog 8 #[.pointer (some ⟨xb, 0, none⟩), .agg #[.int .u16 x.p.src, .int .u16 x.p.dst, .int .u8 x.p.proto, .int .u16 x.p.id, .int .u8 x.p.off, .bool x.p.more, .int .u16 x.p.sport, .int .u16 x.p.dport, .slice x.ao x.p.dlen x.cap]] wz fun e w' => e = .returned (.tuple #[.int .u8 (tof l), .int .i64 0]) ∧ I l base g cv L xb w'))
    (HL1 : Hid (∀ l base g cv L xb x gb ln cb wz w1, L[L.length - 1]? = some x → I l base g cv L xb wz → Below wz.heap.size wz w1 → w1.ownsRow wz.heap.size 5 1 (.slice (some ⟨gb, 0, none⟩) ln cb) ln (x.bytes.map (Value.int .u8)) → Calls Try.prog 11 #[.pointer (some ⟨xb, 0, none⟩), .int .i64 a, .slice (some ⟨gb, 0, none⟩) ln cb] w1 fun e w' => e = .returned (.tuple #[.int .i64 0, .int .i64 0]) ∧ Y l base g cv L xb w'))
    (HLO : Hid (∀ l base g cv L xb wz, Y l base g cv L xb wz → Calls Try.prog 16 #[.pointer (some ⟨xb, 0, none⟩), .int .i64 0] wz fun e w' => e = .returned (.int .i64 0) ∧ J l base g cv L xb 0 w'))
    (HA0 : Hid (∀ l base g cv L xb i x gb ln cb wz w1, L[i]? = some x → i % 2 = 0 → J l base g cv L xb i wz → Below wz.heap.size wz w1 → w1.ownsRow wz.heap.size 5 1 (.slice (some ⟨gb, 0, none⟩) ln cb) ln (x.bytes.map (Value.int .u8)) → Calls Try.prog 11 #[.pointer (some ⟨xb, 0, none⟩), .int .i64 o, .slice (some ⟨gb, 0, none⟩) ln cb] w1 fun e w' => e = .returned (.tuple #[.int .i64 (i + 1 : Nat), .int .i64 0]) ∧ J l base g cv L xb (i + 1) w'))
    (HA1 : Hid (∀ l base g cv L xb i x gb ln cb wz w1, L[i]? = some x → i % 2 = 1 → J l base g cv L xb i wz → Below wz.heap.size wz w1 → w1.ownsRow wz.heap.size 5 1 (.slice (some ⟨gb, 0, none⟩) ln cb) ln (x.bytes.map (Value.int .u8)) → Calls Try.prog 11 #[.pointer (some ⟨xb, 0, none⟩), .int .i64 a, .slice (some ⟨gb, 0, none⟩) ln cb] w1 fun e w' => e = .returned (.tuple #[.int .i64 (i + 1 : Nat), .int .i64 0]) ∧ U l base g cv L xb i w'))
    (HF0 : Hid (∀ l base g cv L xb i wz, J l base g cv L xb i wz → Calls Try.prog 17 #[.pointer (some ⟨xb, 0, none⟩)] wz fun e w' => ∃ ad cp, e = .returned (.slice ad 0 cp) ∧ J l base g cv L xb i w'))
    (HF1 : Hid (∀ l base g cv L xb i wz, U l base g cv L xb i wz → Calls Try.prog 17 #[.pointer (some ⟨xb, 0, none⟩)] wz fun e w' => ∃ gf cf, e = .returned (.slice (some ⟨gf, 0, none⟩) 1 cf) ∧ gf < w'.heap.size ∧ w'.cell? ⟨gf, 0, none⟩ = some (.int .i64 (i + 1 : Nat)) ∧ w'.cell? ⟨gf, 1, none⟩ = some (.int .i64 a) ∧ w'.cell? ⟨gf, 2, none⟩ = some (.int .i64 o) ∧ U l base g cv L xb i w'))
    (HUD : Hid (∀ l base g cv L xb i wz w', U l base g cv L xb i wz → Below wz.heap.size wz w' → U l base g cv L xb i w'))
    (HDE : Hid (∀ l base g cv L xb i wz, i < L.length → U l base g cv L xb i wz → Calls Try.prog 18 #[.pointer (some ⟨xb, 0, none⟩), .int .i64 0] wz fun e w' => e = .returned (.int .i64 0) ∧ J l base g cv L xb (i + 1) w'))
    (HTK : Hid (∀ l base g cv L xb wz, J l base g cv L xb L.length wz → Calls Try.prog 13 #[.pointer (some ⟨xb, 0, none⟩)] wz fun e w' => ∃ ge ce, e = .returned (.slice (some ⟨ge, 0, none⟩) (L.length + 1) ce) ∧ ge < w'.heap.size ∧ (w'.cell? ⟨ge, 0, none⟩ = some (.int .i64 0) ∧ w'.cell? ⟨ge, 1, none⟩ = some (.int .u8 5) ∧ w'.cell? ⟨ge, 2, none⟩ = some (.int .u8 0)) ∧ (∀ q, q < L.length → w'.cell? ⟨ge, (q + 1) * 3, none⟩ = some (.int .i64 (q + 1 : Nat)) ∧ w'.cell? ⟨ge, (q + 1) * 3 + 1, none⟩ = some (.int .u8 0) ∧ w'.cell? ⟨ge, (q + 1) * 3 + 2, none⟩ = some (.int .u8 (tof l))) ∧ V xb w' ∧ Below w.heap.size w w'))
    (HHD : Hid (∀ xb wz, V xb wz → Calls Try.prog 12 #[.pointer (some ⟨xb, 0, none⟩), .int .i64 o] wz fun e w' => e = .returned (.tuple #[.agg #[.int .i64 0, .int .i64 0, .int .i64 0], .int .i64 0]) ∧ Below wz.heap.size wz w')) :
    Calls Try.prog 4 #[.agg #[.int .u16 src, .int .u16 dst, .int .u16 id, .int .u8 proto, .int .u16 sport, .int .u16 dport], .slice ao n cap, .int .i64 tail, .int .i64 replicas, .int .i64 backends] w fun e w' => e = .returned (.bool true) ∧ Below w.heap.size w w' := by
  have HBX : Hid (Below w.heap.size w (w.alloc (.cells #[.int .u16 src, .int .u16 dst, .int .u16 id, .int .u8 proto, .int .u16 sport, .int .u16 dport] 24))) := (Below.refl _ _).alloc (Nat.le_refl _) _
  have HX : Hid (∀ j, (w.alloc (.cells #[.int .u16 src, .int .u16 dst, .int .u16 id, .int .u8 proto, .int .u16 sport, .int .u16 dport] 24)).cell? ⟨w.heap.size, j, none⟩ = #[.int .u16 src, .int .u16 dst, .int .u16 id, .int .u8 proto, .int .u16 sport, .int .u16 dport][j]?) := box_cell (Below.refl _ _)
  have hY : w.heap.size < (w.alloc (.cells #[.int .u16 src, .int .u16 dst, .int .u16 id, .int .u8 proto, .int .u16 sport, .int .u16 dport] 24)).heap.size := by simp
  have HD := hide hd
  have HZZ := hide (fun z hh => (show -9223372036854775808 ≤ z ∧ z ≤ 9223372036854775807 ∧ pk z 8 ≤ (7 : Nat) from ⟨(hz z hh).1, (hz z hh).2, by have := (pk_bd z 8 (by decide)).2; omega⟩))
  have HPN := hide (fun w => pick_any replicas 4 w hrp.1 hrp.2 (by decide) (by decide))
  have hN1 : 2 ≤ N ∧ N ≤ 5 := by have := pk_bd replicas 4 (by decide); omega
  have hNw : IntKind.i64.wrap (2 + pk replicas 4) = (N : Int) := by rw [hN, IntKind.wrap_i64]; omega
  clear hd hz
  go_enter Try.func4, Try.ntmps4
  go_wp2_with fail
  generalize w.alloc (.cells #[.int .u16 src, .int .u16 dst, .int .u16 id, .int .u8 proto, .int .u16 sport, .int .u16 dport] 24) = w0 at *
  refine (HPN.out _).mono ?_
  rintro e w00 ⟨rfl, rfl⟩
  generalize pk replicas 4 = rp at *
  go_wp2_with fail
  refine (some_any backends _ hbk.1 hbk.2).mono ?_
  rintro e w1 ⟨l, v, rfl, hrow, hnd, hl1, hl6, hlb, hb1⟩
  obtain ⟨va, vc, rfl, hhas, _, _, _, _⟩ := owns_any hrow
  have HB1 : Hid (Below w.heap.size w w1) := HBX.out.trans (hb1.mono (Nat.le_of_lt hY))
  have HBG := hide (HB.out l va vc w1 HB1.out ⟨hnd, hl1, hl6, hlb⟩ hhas)
  have HX1 : Hid (∀ j, w1.cell? ⟨w.heap.size, j, none⟩ = #[.int .u16 src, .int .u16 dst, .int .u16 id, .int .u8 proto, .int .u16 sport, .int .u16 dport][j]?) := fun j => (hb1.cell (p := ⟨w.heap.size, j, none⟩) hY).trans (HX.out j)
  have hY1 : w.heap.size < w1.heap.size := Nat.lt_of_lt_of_le hY hb1.size
  clear hrow hnd hl1 hl6 hlb hhas hb1 HB HBX HX hY
  go_wp2_with fail
  refine HBG.out.mono ?_
  rintro e w2 ⟨xb, rfl, hZ, hb2⟩
  have HZ2 := hide hZ
  have HB2 : Hid (Below w.heap.size w w2) := HB1.out.trans (hb2.mono (Nat.le_of_lt hY1))
  have x2 : ∀ j, w2.cell? ⟨w.heap.size, j, none⟩ = #[.int .u16 src, .int .u16 dst, .int .u16 id, .int .u8 proto, .int .u16 sport, .int .u16 dport][j]? := fun j => (hb2.cell (p := ⟨w.heap.size, j, none⟩) hY1).trans (HX1.out j)
  have hY2 : w.heap.size < w2.heap.size := Nat.lt_of_lt_of_le hY1 hb2.size
  have HPI := hide (pieces_any src dst id proto sport dport zs 7 n cap ao tail w2 hl (by omega) HZZ.out (HD.out.below HB2.out) hn ht)
  clear hZ hb2 HBG HB1 HX1 hY1 HD HZZ
  go_wp2_with fail
  refine HPI.out.mono ?_
  rintro e w3 ⟨v, L, r, t, rfl, hrow, hpv, hmp, hr1, hr2, hr3, hr4, hr5, htt, hb3⟩
  have hdg : DgOK src dst id proto sport dport 7 tail L := ⟨r, t, hmp, hr1, hr2, hr3, hr4, hr5.1, htt⟩
  have hLl := hdg.len
  obtain ⟨g, cv, rfl⟩ : ∃ g cv, v = .slice (some ⟨g, 0, none⟩) L.length cv := by
    rcases own_shaped hrow with ⟨_, h0⟩ | h0
    · omega
    · exact h0
  have hI0 := HZ.out l xb w2 w3 g cv L HZ2.out hb3 ⟨hrow, hpv⟩ hdg
  have HI0 := hide hI0
  have HDG := hide hdg
  generalize w2.heap.size = base at *
  clear hrow hpv hmp hr1 hr2 hr3 hr4 hr5 htt hb3 hdg hI0 HPI HZ HZ2 x2 hY2 HB2
  obtain ⟨x0, hx0⟩ : ∃ x, L[0]? = some x := ⟨_, List.getElem?_eq_getElem (by omega)⟩
  obtain ⟨xe, hxe⟩ : ∃ x, L[L.length - 1]? = some x := ⟨_, List.getElem?_eq_getElem (by omega)⟩
  obtain ⟨c0, c1, c2, c3, c4, c5, c6, c7, c8⟩ := (HIP.out _ _ _ _ _ _ _ HI0.out).1.cells 0 x0 hx0
  have hgw := (HIP.out _ _ _ _ _ _ _ HI0.out).2
  have HO := hide (HOW.out l base g cv L xb x0 w3 hx0 HI0.out)
  have j0 : (0 : Int) < (L.length : Int) := by omega
  go_wp2_with fail
  refine HO.out.mono ?_
  rintro e w4 ⟨rfl, hI4⟩
  clear c0 c1 c2 c3 c4 c5 c6 c7 c8 hgw HO HI0
  obtain ⟨c0, c1, c2, c3, c4, c5, c6, c7, c8⟩ := (HIP.out _ _ _ _ _ _ _ hI4).1.cells 0 x0 hx0
  have hgw := (HIP.out _ _ _ _ _ _ _ hI4).2
  have HC := hide (HCH.out l base g cv L xb x0 w4 hx0 hI4)
  have i1 : (o : Int) < (N : Int) := by omega
  have haw : IntKind.i64.wrap ((o : Int) + 1) = (o : Int) + 1 := by rw [IntKind.wrap_i64]; omega
  have ham : Int.tmod ((o : Int) + 1) (N : Int) = (a : Int) := by rw [Int.tmod_eq_emod_of_nonneg (by omega), ← haN]; simp
  have ham2 : ((o : Int) + 1) % (N : Int) = (a : Int) := by rw [← haN]; simp
  have hnz : ((N : Int) == 0) = false := by rw [beq_eq_false_iff_ne]; omega
  clear hI4
  go_wp2_with fail
  refine HC.out.mono ?_
  rintro e w5 ⟨rfl, hI5⟩
  generalize htof : tof l = tb at *
  clear c0 c1 c2 c3 c4 c5 c6 c7 c8 hgw HC haw ham ham2
  obtain ⟨q, hq⟩ : ∃ q, q + 1 = L.length := ⟨L.length - 1, by omega⟩
  have hE : (L.length : Int) - 1 = (q : Int) := by omega
  rw [hE]
  have hxe' : L[q]? = some xe := by rw [← hxe]; congr 1; omega
  obtain ⟨c0, c1, c2, c3, c4, c5, c6, c7, c8⟩ := (HIP.out _ _ _ _ _ _ _ hI5).1.cells q xe hxe'
  have hgw := (HIP.out _ _ _ _ _ _ _ hI5).2
  have HPX := hide (HPD.out L xe base w5 HDG.out (List.mem_of_getElem? hxe) ((HIP.out _ _ _ _ _ _ _ hI5).1.2 xe (List.mem_of_getElem? hxe)))
  have HAL := hide (fun gb cb w1 h1 h2 => HL1.out l base g cv L xb xe gb xe.bytes.length cb w5 w1 hxe hI5 h1 h2)
  generalize xe.bytes.length = ln at *
  have i2 : (q : Int) < (L.length : Int) := by omega
  clear hE hI5
  go_wp2_with fail
  refine HPX.out.mono ?_
  rintro e w6 ⟨gb, cb, rfl, hrow6, hb6⟩
  have HA := hide (HAL.out gb cb w6 hb6 hrow6)
  clear hrow6 hb6 HPX HAL c0 c1 c2 c3 c4 c5 c6 c7 c8 hgw
  go_wp2_with fail
  refine HA.out.mono ?_
  rintro e w7 ⟨rfl, hY⟩
  have HLL := hide (HLO.out l base g cv L xb w7 hY)
  clear hY HA
  go_wp2_with fail
  refine HLL.out.mono ?_
  rintro e w8 ⟨rfl, hJ8⟩
  have HJ8 := hide hJ8
  clear hJ8 HLL
  go_wp2_with fail
  go_loopw [24] (fun a24 wr => ∃ i : Nat, i ≤ L.length ∧ a24 = .int .i64 i ∧ Hid (J l base g cv L xb i wr)) (fun a24 _ => L.length - (intOf a24).toNat)
  case atStart => exact ⟨0, by omega, rfl, HJ8.out⟩
  case round =>
    obtain ⟨i, hi, rfl, HJ⟩ := hrel
    clear HJ8
    by_cases hlt : i < L.length
    · obtain ⟨x, hx⟩ : ∃ x, L[i]? = some x := ⟨_, List.getElem?_eq_getElem hlt⟩
      have i3 : (i : Int) < (L.length : Int) := by omega
      obtain ⟨d0, d1, d2, d3, d4, d5, d6, d7, d8⟩ := (HJP.out _ _ _ _ _ _ _ _ HJ.out).1.cells i x hx
      have hgJ := (HJP.out _ _ _ _ _ _ _ _ HJ.out).2
      have HPX := hide (HPD.out L x base wr HDG.out (List.mem_of_getElem? hx) ((HJP.out _ _ _ _ _ _ _ _ HJ.out).1.2 x (List.mem_of_getElem? hx)))
      by_cases hpar : i % 2 = 1
      · have HAR := hide (fun gb cb w1 h1 h2 => HA1.out l base g cv L xb i x gb x.bytes.length cb wr w1 hx hpar HJ.out h1 h2)
        generalize x.bytes.length = ln2 at *
        have p1 : ((i : Int).tmod 2 == 1) = true := by rw [beq_iff_eq, Int.tmod_eq_emod_of_nonneg (by omega)]; omega
        have p2 : ((i : Int) % 2 == 1) = true := by rw [beq_iff_eq]; omega
        have p3 : (i : Int) % 2 = 1 := by omega
        go_wp2_with fail
        refine HPX.out.mono ?_
        rintro e w9 ⟨gb9, cb9, rfl, hrow9, hb9⟩
        have HA' := hide (HAR.out gb9 cb9 w9 hb9 hrow9)
        clear hrow9 hb9 HPX HAR d0 d1 d2 d3 d4 d5 d6 d7 d8 hgJ
        go_wp2_with fail
        refine HA'.out.mono ?_
        rintro e w10 ⟨rfl, hU⟩
        have HFF := hide (HF1.out l base g cv L xb i w10 hU)
        clear hU HA'
        have i4 : ((i + 1 : Nat) : Int) = (i : Int) + 1 := by omega
        rw [i4]
        go_wp2_with fail
        refine HFF.out.mono ?_
        rintro e w11 ⟨gf, cf, rfl, hgf, f0, f1, f2, hU11⟩
        rw [i4] at f0
        have HDD := hide (HDE.out l base g cv L xb i w11 hlt hU11)
        have HDX := hide (fun w' h => HDE.out l base g cv L xb i w' hlt (HUD.out l base g cv L xb i w11 w' hU11 h))
        clear hU11 HFF i4
        go_wp2_with fail
        refine HDD.out.mono ?_
        rintro e w12 ⟨rfl, hJ12⟩
        have HJ12 := hide hJ12
        clear hJ12 HDD HDX f0 f1 f2
        go_wp2
        go_roundw
        case rel => exact ⟨i + 1, by omega, by go_num, HJ12.out⟩
        case measure => simp [intOf]; omega
      · have HAR := hide (fun gb cb w1 h1 h2 => HA0.out l base g cv L xb i x gb x.bytes.length cb wr w1 hx (by omega) HJ.out h1 h2)
        generalize x.bytes.length = ln2 at *
        have p1 : ((i : Int).tmod 2 == 1) = false := by rw [beq_eq_false_iff_ne, Int.tmod_eq_emod_of_nonneg (by omega)]; omega
        have p2 : ((i : Int) % 2 == 1) = false := by rw [beq_eq_false_iff_ne]; omega
        have p3 : (i : Int) % 2 = 0 := by omega
        go_wp2_with fail
        refine HPX.out.mono ?_
        rintro e w9 ⟨gb9, cb9, rfl, hrow9, hb9⟩
        have HA' := hide (HAR.out gb9 cb9 w9 hb9 hrow9)
        clear hrow9 hb9 HPX HAR d0 d1 d2 d3 d4 d5 d6 d7 d8 hgJ
        go_wp2_with fail
        refine HA'.out.mono ?_
        rintro e w10 ⟨rfl, hJ10⟩
        have HFF := hide (HF0.out l base g cv L xb (i + 1) w10 hJ10)
        clear hJ10 HA'
        have i4 : ((i + 1 : Nat) : Int) = (i : Int) + 1 := by omega
        rw [i4]
        clear i4
        go_wp2_with fail
        refine HFF.out.mono ?_
        rintro e w11 ⟨adf, cpf, rfl, hJ11⟩
        have HJ11 := hide hJ11
        clear hJ11 HFF
        go_wp2
        go_roundw
        case rel => exact ⟨i + 1, by omega, by go_num, HJ11.out⟩
        case measure => simp [intOf]; omega
    · obtain rfl : i = L.length := by omega
      have HT := hide (HTK.out l base g cv L xb wr HJ.out)
      go_wp2_with fail
      refine HT.out.mono ?_
      rintro e w12 ⟨ge, ce, rfl, hge, ⟨e0, e1, e2⟩, hev, hV, hb12⟩
      rw [htof] at hev
      have HEV := hide hev
      have HB12 := hide hb12
      have HHH := hide (HHD.out xb w12 hV)
      have HE0 := hide (And.intro e0 (And.intro e1 e2))
      clear hev hb12 hV HT e0 e1 e2
      go_wp2_with fail
      refine HHH.out.mono ?_
      rintro e w13 ⟨rfl, hb13⟩
      have e0 := (hb13.cell (p := ⟨ge, 0, none⟩) hge).trans HE0.out.1
      have e1 := (hb13.cell (p := ⟨ge, 1, none⟩) hge).trans HE0.out.2.1
      have e2 := (hb13.cell (p := ⟨ge, 2, none⟩) hge).trans HE0.out.2.2
      have hge3 : ge < w13.heap.size := Nat.lt_of_lt_of_le hge hb13.size
      have HB13 := hide hb13
      clear hb13 HHH HE0
      go_wp2_with fail
      generalize hw14 : w13.alloc (.cells #[.int .i64 0, .int .i64 0, .int .i64 0] 42) = w14 at *
      have HB14 : Hid (Below w13.heap.size w13 w14) := by
        rw [← hw14]
        exact (Below.refl _ _).alloc (Nat.le_refl _) _
      clear hw14 e0 e1 e2
      go_loopw [33] (fun a33 wr => ∃ j : Nat, j ≤ L.length ∧ a33 = .int .i64 j ∧ Hid (Below w13.heap.size w13 wr)) (fun a33 _ => L.length - (intOf a33).toNat)
      case atStart => exact ⟨0, by omega, rfl, HB14.out⟩
      case round =>
        obtain ⟨j, hj, rfl, HW⟩ := hrel
        have hgr : ge < wr.heap.size := Nat.lt_of_lt_of_le hge3 HW.out.size
        by_cases hjl : j < L.length
        · obtain ⟨e0, e1, e2⟩ := HEV.out j hjl
          have f0 := (HW.out.cell (p := ⟨ge, (j + 1) * 3, none⟩) hge3).trans ((HB13.out.cell (p := ⟨ge, (j + 1) * 3, none⟩) hge).trans e0)
          have f1 := (HW.out.cell (p := ⟨ge, (j + 1) * 3 + 1, none⟩) hge3).trans ((HB13.out.cell (p := ⟨ge, (j + 1) * 3 + 1, none⟩) hge).trans e1)
          have f2 := (HW.out.cell (p := ⟨ge, (j + 1) * 3 + 2, none⟩) hge3).trans ((HB13.out.cell (p := ⟨ge, (j + 1) * 3 + 2, none⟩) hge).trans e2)
          have i4 : ((j + 1 : Nat) : Int) = (j : Int) + 1 := by omega
          rw [i4] at f0
          have i5 : (j : Int) < (L.length : Int) := by omega
          have i6 : (j : Int) + 1 < (L.length : Int) + 1 := by omega
          clear e0 e1 e2 i4
          go_wp2
          go_roundw
          case rel => exact ⟨j + 1, by omega, by go_num, HW.out⟩
          case measure => simp [intOf]; omega
        · have HBE : Hid (Below w.heap.size w wr) := HB12.out.trans ((HB13.out.trans (HW.out.mono HB13.out.size)).mono HB12.out.size)
          go_wp2
          go_ret
          exact ⟨rfl, HBE.out⟩

end Go.Proofs.Ytajphdppmdoalab

namespace Go.Proofs.Ytajphdppmdoalab
open Go.RowKit
set_option linter.unusedVariables false

/-- A cluster, and a row of packets beside it that none of its calls writes; so the blocks E. -/
def Bes (w : World) (base g cv : Nat) (L : List PV) (xb : Nat) (E : Nat → Prop) (S : Cl) (wz : World) : Prop :=
  ∃ w1, PkL w1 base (.slice (some ⟨g, 0, none⟩) L.length cv) L ∧ g < w1.heap.size ∧ Kp (fun k => base ≤ k ∧ k < w1.heap.size) w1 wz ∧ At w (fun k => (base ≤ k ∧ k < w1.heap.size) ∨ E k) xb S wz
theorem Bes.pk {w wz : World} {base g cv : Nat} {L : List PV} {xb : Nat} {E : Nat → Prop} {S : Cl} (h : Bes w base g cv L xb E S wz) : PkL wz base (.slice (some ⟨g, 0, none⟩) L.length cv) L ∧ g < wz.heap.size := by
  obtain ⟨w1, h1, h2, h3, h4⟩ := h
  exact ⟨h1.kept h3 (fun k a b => ⟨a, b⟩), Nat.lt_of_lt_of_le h2 h3.size⟩
theorem Bes.bel {w wz : World} {base g cv : Nat} {L : List PV} {xb : Nat} {E : Nat → Prop} {S : Cl} (h : Bes w base g cv L xb E S wz) : Below w.heap.size w wz := by
  obtain ⟨w1, h1, h2, h3, h4⟩ := h
  exact h4.bel
theorem Bes.below {w wz w' : World} {base g cv : Nat} {L : List PV} {xb : Nat} {E : Nat → Prop} {S : Cl} (h : Bes w base g cv L xb E S wz) (hb : Below wz.heap.size wz w') : Bes w base g cv L xb E S w' := by
  obtain ⟨w1, h1, h2, h3, h4⟩ := h
  exact ⟨w1, h1, h2, h3.trans (Kp.below hb), h4.below hb⟩
theorem Bes.less {w wz : World} {base g cv : Nat} {L : List PV} {xb : Nat} {E E' : Nat → Prop} {S : Cl} (h : Bes w base g cv L xb E S wz) (he : ∀ k, E' k → E k) : Bes w base g cv L xb E' S wz := by
  obtain ⟨w1, h1, h2, h3, h4⟩ := h
  exact ⟨w1, h1, h2, h3, h4.less (fun k hk => hk.elim .inl (fun hk => .inr (he k hk)))⟩
theorem Bes.plus {w wz w' : World} {base g cv : Nat} {L : List PV} {xb : Nat} {E : Nat → Prop} {S : Cl} (h : Bes w base g cv L xb E S wz) (hb : Below wz.heap.size wz w') (b : Nat) (hb1 : wz.heap.size ≤ b) (hb2 : b < w'.heap.size) : Bes w base g cv L xb (fun k => E k ∨ k = b) S w' := by
  obtain ⟨w1, h1, h2, h3, h4⟩ := h
  refine ⟨w1, h1, h2, h3.trans (Kp.below hb), (h4.plus hb b hb1 hb2).less (fun k hk => ?_)⟩
  rcases hk with hk | hk | hk
  · exact .inl (.inl hk)
  · exact .inl (.inr hk)
  · exact .inr hk
/-- What each call of the cluster does, with the row of packets beside it. -/
theorem Bes.step {w wz : World} {base g cv : Nat} {L : List PV} {xb : Nat} {E : Nat → Prop} {S : Cl} (h : Bes w base g cv L xb E S wz) : ∃ G, At w G xb S wz ∧ (∀ k, E k → G k) ∧ ∀ S' w', At w G xb S' w' → Kp G wz w' → Bes w base g cv L xb E S' w' := by
  obtain ⟨w1, h1, h2, h3, h4⟩ := h
  exact ⟨_, h4, fun k hk => .inr hk, fun S' w' ha hk => ⟨w1, h1, h2, h3.trans (hk.less (fun k hk => .inl hk)), ha⟩⟩
theorem Bes.start {w wz w1 : World} {g cv : Nat} {L : List PV} {xb : Nat} {G : Nat → Prop} {S : Cl} (h : At w G xb S wz) (hb : Below wz.heap.size wz w1) (hp : PkL w1 wz.heap.size (.slice (some ⟨g, 0, none⟩) L.length cv) L) : Bes w wz.heap.size g cv L xb (fun _ => False) S w1 := by
  refine ⟨w1, hp, (hp.1.lt g rfl).2, Kp.refl _ _, (h.plusAll hb).less (fun k hk => ?_)⟩
  rcases hk with hk | hk
  · exact .inr hk
  · exact hk.elim
theorem bes_arrive (w wz : World) (base g cv : Nat) (L : List PV) (xb : Nat) (E : Nat → Prop) (S : Cl) (h : Bes w base g cv L xb E S wz) (hg : Good S) (rep : Int) (x : PV) (hx : PkG x.p) (b n cb : Nat) (hn : S.next ≤ 1900000000000) (hr0 : 0 ≤ rep) (hr1 : rep < S.reps) (hl : x.bytes.length = n) (hcap : n ≤ cb) (hcm : cb ≤ maxLen) (hd : Has wz (some ⟨b, 0, none⟩) x.bytes) (hE : E b) :
    Calls Try.prog 11 #[.pointer (some ⟨xb, 0, none⟩), .int .i64 rep, .slice (some ⟨b, 0, none⟩) n cb] wz fun e w' => e = .returned (.tuple #[.int .i64 S.next, .int .i64 0]) ∧ Bes w base g cv L xb E (arriveM S rep (some x.p)) w' ∧ Kp E wz w' ∧ Good (arriveM S rep (some x.p)) := by
  obtain ⟨G, hA, hEG, hst⟩ := h.step
  refine (at_arrive xb S G rep x.bytes b n cb w wz hA hg.sml hg.uq hn hr0 hr1 hl hcap hcm hd (bytes_bd x hx) (hEG b hE)).mono ?_
  rintro e w' ⟨rfl, a1, a2⟩
  have hgd := good_arrive S rep (upK x.bytes) hg (by omega) (fun p hp => upK_ok x.bytes (bytes_bd x hx) p hp)
  rw [bytes_up x hx] at a1 hgd
  exact ⟨rfl, hst _ _ a1 a2, a2.less hEG, hgd⟩

theorem one_gen (T : List Int) (z : Int) (hlen : T.length = 31) (hbd : ∀ y ∈ T, 0 ≤ y ∧ y ≤ 255) (hsh : ∀ b : Nat, b < 256 → (b : Int) ∉ [z] → T.count (b : Int) = 0) (i : Nat) (hi : i < 31) : T.getD i 0 = z := by
  have hmem : T.getD i 0 ∈ T := by
    rw [List.getD_eq_getElem?_getD, List.getElem?_eq_getElem (by omega)]
    exact List.getElem_mem _
  generalize T.getD i 0 = y at hmem ⊢
  obtain ⟨b, rfl⟩ := Int.eq_ofNat_of_zero_le (hbd y hmem).1
  have hb := (hbd _ hmem).2
  by_cases hbz : (b : Int) ∈ [z]
  · exact List.mem_singleton.1 hbz
  · have hc := hsh b (by omega) hbz
    exact absurd (List.count_pos_iff.2 hmem) (by omega)
theorem asc_one (z : Int) (hz : 0 ≤ z ∧ z ≤ 255) : (asc [z]).length = [z].length := (asc_len [z] (fun y hy => by rw [List.mem_singleton.1 hy]; exact hz)).2.2 (by rw [nd, nd]; rfl)
theorem tE_one (z : Int) (hz : 0 ≤ z ∧ z ≤ 255) : tE [z] = 0 := tE_nd [z] (by rw [nd, nd]; rfl) (by simp) (by simp) (fun y hy => by rw [List.mem_singleton.1 hy]; exact hz)
theorem share_one (z : Int) (hz : 0 ≤ z ∧ z ≤ 255) (b : Nat) (hb : b < 256) (hn : (b : Int) ∉ [z]) : (tbl [z]).count (b : Int) = 0 := by
  have ha := asc_one z hz
  rw [share [z] b hb (by rw [ha]; simp) (by rw [ha]; simp), if_neg hn]
/-- The table of one backend has it everywhere. -/
theorem tbl_one (z : Int) (hz : 0 ≤ z ∧ z ≤ 255) (i : Nat) (hi : i < 31) : (tblOf [z]).getD i 0 = z :=
  one_gen (tblOf [z]) z (by rw [(tE_tbl [z] (tE_one z hz)).1]; exact (tE_tbl [z] (tE_one z hz)).2) (tbl_bd' [z]) (fun b hb hn => by rw [(tE_tbl [z] (tE_one z hz)).1]; exact share_one z hz b hb hn) i hi

/-- The events of the first pieces, each with the one that was sent once more. -/
def evP (tb : Int) : Nat → List Ev
  | 0 => []
  | n + 1 => evP tb n ++ [⟨2 * n, 0, tb⟩, ⟨2 * n + 1, 3, 0⟩]
theorem evP_len (tb : Int) (n : Nat) : (evP tb n).length = 2 * n := by
  induction n with
  | zero => rfl
  | succ n ih => rw [evP, List.length_append, ih]; simp; omega
theorem evP_get (tb : Int) (n q : Nat) (h : q < 2 * n) : (evP tb n)[q]? = some ⟨q, if q % 2 = 1 then 3 else 0, if q % 2 = 1 then 0 else tb⟩ := by
  induction n with
  | zero => omega
  | succ n ih =>
    rw [evP]
    by_cases hq : q < 2 * n
    · rw [List.getElem?_append_left (by rw [evP_len]; exact hq)]
      exact ih hq
    · rw [List.getElem?_append_right (by rw [evP_len]; omega), evP_len]
      by_cases h2 : q = 2 * n
      · subst h2
        rw [Nat.sub_self, if_neg (by omega), if_neg (by omega)]
        rfl
      · obtain rfl : q = 2 * n + 1 := by omega
        rw [show 2 * n + 1 - 2 * n = 1 by omega, if_pos (by omega), if_pos (by omega)]
        rfl
/-- Which have come behind i pieces. -/
def comeP (ps : List Pk) (i : Nat) : List (Nat × Pk) := ((ps.take i).zipIdx).map (fun x => (2 * x.2, x.1))
theorem comeP_map (ps : List Pk) (i : Nat) : (comeP ps i).map (·.2) = ps.take i := by
  unfold comeP
  rw [List.map_map]
  show ((ps.take i).zipIdx).map (fun x => x.1) = _
  rw [List.zipIdx_map_fst]
theorem comeP_snoc (ps : List Pk) (i : Nat) (p : Pk) (h : ps[i]? = some p) : comeP ps (i + 1) = comeP ps i ++ [(2 * i, p)] := by
  have hi := (List.getElem?_eq_some_iff.1 h).1
  unfold comeP
  rw [List.take_add_one, h, Option.toList_some, List.zipIdx_append, List.map_append, List.length_take, Nat.min_eq_left (by omega)]
  simp
theorem drop_at (ps : List Pk) (i : Nat) (p : Pk) (h : ps[i]? = some p) : ps.drop i = p :: ps.drop (i + 1) := by
  have hi := List.getElem?_eq_some_iff.1 h
  rw [← hi.2, List.getElem_cons_drop]

/-- The pieces of the datagram, and what is known of them. -/
structure DgF (sport dport : Int) (k : Pk) (ps : List Pk) (E : Int) : Prop where
  dat : Dat k ps E
  good : ∀ p ∈ ps, PkG p
  piece : ∀ p ∈ ps, wholePk p = false
  first : ∀ p : Pk, ps[0]? = some p → p.off = 0 ∧ p.sport = sport ∧ p.dport = dport
  later : ∀ (i : Nat) (p : Pk), ps[i]? = some p → p.off = 0 → i = 0
  two : 2 ≤ ps.length ∧ ps.length ≤ 8
theorem dg_facts (src dst id proto sport dport : Int) (m : Nat) (hm : m ≤ 7) (tail : Int) (L : List PV) (h : DgOK src dst id proto sport dport m tail L) (hs : 0 ≤ src ∧ src ≤ 65535) (hd : 0 ≤ dst ∧ dst ≤ 65535) (hp : 0 ≤ proto ∧ proto ≤ 255) (hi : 0 ≤ id ∧ id ≤ 65535) (hsp : 0 ≤ sport ∧ sport ≤ 65535) (hdp : 0 ≤ dport ∧ dport ≤ 65535) :
    ∃ E, DgF sport dport ⟨src, dst, proto, id, 0, false, 0, 0, 0⟩ (L.map PV.p) E := by
  have hlen := h.len
  obtain ⟨r, t, h1, h2, h3, h4, h5, h6, h7⟩ := h
  have hpk := pk_bd tail 32 (by decide)
  have hr : r ≠ [] := by rintro rfl; simp at h5
  obtain ⟨p0, ps', hc, hf0, hfl⟩ := cut_first src dst proto id sport dport 0 r t h2
  rw [h1]
  refine ⟨_, cut_dat src dst proto id sport dport 0 r t rfl h2 (by omega) _ ⟨rfl, rfl, rfl, rfl⟩, cut_good src dst proto id sport dport 0 r t (m + 1) (by omega) h2 h3 h4 (by omega) hs hd hp hi hsp hdp, cut_pieces src dst proto id sport dport r t h2 hr, ?_, ?_, ?_⟩
  · intro p hp'
    cases r with
    | nil => exact absurd rfl hr
    | cons v r =>
      simp only [cutD, List.getElem?_cons_zero, Option.some.injEq] at hp'
      subst hp'
      exact ⟨rfl, rfl, rfl⟩
  · intro i p hp' h0
    cases i with
    | zero => rfl
    | succ i =>
      rw [hc, List.getElem?_cons_succ] at hp'
      have := hfl p (List.mem_of_getElem? hp')
      omega
  · rw [cut_length]
    omega

end Go.Proofs.Ytajphdppmdoalab
