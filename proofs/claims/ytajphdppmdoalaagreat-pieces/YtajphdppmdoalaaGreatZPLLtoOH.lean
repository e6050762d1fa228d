import Derived.Test.YtajphdppmdoalaaGreatZPHtoLB
import Derived.Test.YtajphdppmdoalaaGreatZPJ4toE
import Derived.Test.YtajphdppmdoalaaGreatZPJ1toLM
import Derived.Test.YtajphdppmdoalaaGreatZPOCtoOF
import Derived.Test.YtajphdppmdoalaaGreatZPODtoOD
namespace Go.Proofs.YtajphdppmdoalaaGreat
set_option linter.unusedVariables false

/-- The table of some backends; of none: nothing. -/
def tblOf (zs : List Int) : List Int := if zs.length = 0 then [] else tbl zs
theorem tblOf_len (zs : List Int) : tblOf zs = [] ∨ (tblOf zs).length = 31 := by
  unfold tblOf
  split
  · exact .inl rfl
  · exact .inr (tbl_len zs)

/-- The packet that bytes are, if they are one. -/
def upK (zs : List Int) : Option Pk := if upC zs = 0 then some ⟨(upP zs).src, (upP zs).dst, (upP zs).proto, (upP zs).id, (upP zs).off, (upP zs).more, (upP zs).sport, (upP zs).dport, (upP zs).data.length⟩ else none

theorem spOf_bd (h8 : Int) : ∀ r : List Int, (∀ z ∈ r, 0 ≤ z ∧ z ≤ 255) → 0 ≤ spOf h8 r ∧ spOf h8 r ≤ 65535
  | [], _ => by simp [spOf]
  | [_], _ => by simp [spOf]
  | p0 :: p1 :: t, hb => by
    have := hb p0 (by simp)
    have := hb p1 (by simp)
    simp only [spOf]
    split <;> omega
theorem dpOf_bd (h8 : Int) : ∀ r : List Int, (∀ z ∈ r, 0 ≤ z ∧ z ≤ 255) → 0 ≤ dpOf h8 r ∧ dpOf h8 r ≤ 65535
  | [], _ => by simp [dpOf]
  | [_], _ => by simp [dpOf]
  | [_, _], _ => by simp [dpOf]
  | [_, _, _], _ => by simp [dpOf]
  | p0 :: p1 :: p2 :: p3 :: t, hb => by
    have := hb p2 (by simp)
    have := hb p3 (by simp)
    simp only [dpOf]
    split <;> omega
theorem upK_ok (zs : List Int) (hz : ∀ z ∈ zs, 0 ≤ z ∧ z ≤ 255) (p : Pk) (h : upK zs = some p) : PkB p ∧ (wholePk p = false → PkOK p) := by
  unfold upK at h
  split at h
  · rename_i h0
    simp only [Option.some.injEq] at h
    subst h
    match zs, hz, h0 with
    | h0 :: h1 :: h2 :: h3 :: h4 :: h5 :: h6 :: h7 :: h8 :: h9 :: h10 :: h11 :: r, hz, hc =>
      have hb : ∀ z ∈ r, 0 ≤ z ∧ z ≤ 255 := fun z hz' => hz z (by simp [hz'])
      have b1 := hz h1 (by simp)
      have b2 := hz h2 (by simp)
      have b3 := hz h3 (by simp)
      have b4 := hz h4 (by simp)
      have b5 := hz h5 (by simp)
      have b6 := hz h6 (by simp)
      have b7 := hz h7 (by simp)
      have b8 := hz h8 (by simp)
      simp only [upC] at hc
      split at hc
      · omega
      split at hc
      · omega
      split at hc
      · omega
      split at hc
      · omega
      rename_i hw
      simp only [Bool.not_eq_false] at hw
      have hsp := spOf_bd h8 r hb
      have hdp := dpOf_bd h8 r hb
      simp only [upP]
      generalize (dtOf h8 r).length = n at *
      generalize spOf h8 r = sp at *
      generalize dpOf h8 r = dp at *
      unfold wfB at hw
      simp only [Bool.and_eq_true, decide_eq_true_eq, Bool.or_eq_true, Bool.not_eq_true'] at hw
      obtain ⟨⟨⟨w1, w2⟩, w3⟩, w4⟩ := hw
      refine ⟨⟨by simp only; omega, by simp only; omega, by simp only; omega, by simp only; omega, by simp only; omega, by simp only; omega, by simp only; omega, by simp only; omega⟩, fun hp => ⟨by simp only; omega, ?_⟩⟩
      unfold wholePk at hp
      simp only [Bool.and_eq_false_iff, decide_eq_false_iff_not, Bool.not_eq_false'] at hp
      simp only
      rcases hp with hp | hp
      · rcases w4 with w4 | w4
        · exact absurd w4 hp
        · omega
      · rcases w3 with w3 | w3
        · rw [hp] at w3; cases w3
        · omega
  · cases h

end Go.Proofs.YtajphdppmdoalaaGreat

namespace Go.Proofs.YtajphdppmdoalaaGreat
open Go.RowKit
set_option linter.unusedVariables false

set_option maxRecDepth 100000 in
set_option maxHeartbeats 800000 in
theorem whole_any (src dst proto id off : Int) (more : Bool) (sport dport : Int) (ao : Option Addr) (n cap : Nat) (w : World) :
    Calls Tryz.prog 72 #[.agg #[.int .u16 src, .int .u16 dst, .int .u8 proto, .int .u16 id, .int .u8 off, .bool more, .int .u16 sport, .int .u16 dport, .slice ao n cap]] w fun e w' => e = .returned (.bool (decide (off = 0) && !more)) ∧ Below w.heap.size w w' := by
  by_cases h : off = 0
  · subst h
    go_enter Tryz.func72, Tryz.ntmps72
    go_wp2
    go_ret
    exact ⟨by simp, (Below.refl _ _).alloc (Nat.le_refl _) _⟩
  · have hb : (off == 0) = false := by simp [h]
    go_enter Tryz.func72, Tryz.ntmps72
    go_wp2
    go_ret
    exact ⟨by simp [h], (Below.refl _ _).alloc (Nat.le_refl _) _⟩

set_option maxRecDepth 100000 in
set_option maxHeartbeats 1600000 in
theorem pass_core (xb : Nat) (S : Cl) (F : Nat → Prop) (gS : Nat) (cs : Array Value) (vT vV vN : Value) (RR : Nat → List PE) (Fs : Nat → Nat → Prop) (T : Nat → Int) (seq : Nat) (src dst proto id off : Int) (more : Bool) (sport dport : Int) (ao : Option Addr) (n cap : Nat) (bk ec : Int) (w : World) (h : PrC w xb S F gS cs vT vV vN RR Fs T) (hevl : S.evs.length ≤ 2000000000000)
    (HCH : Hid (∀ wz, Below w.heap.size w wz → Calls Tryz.prog 48 #[.pointer (some ⟨xb, 0, none⟩), .agg #[.int .u16 src, .int .u16 dst, .int .u8 proto, .int .u16 id, .int .u8 off, .bool more, .int .u16 sport, .int .u16 dport, .slice ao n cap]] wz fun e w' => e = .returned (.tuple #[.int .u8 bk, .int .i64 ec]) ∧ Below wz.heap.size wz w')) :
    Calls Tryz.prog 73 #[.pointer (some ⟨xb, 0, none⟩), .int .i64 seq, .agg #[.int .u16 src, .int .u16 dst, .int .u8 proto, .int .u16 id, .int .u8 off, .bool more, .int .u16 sport, .int .u16 dport, .slice ao n cap]] w fun e w' => e = .returned (.tuple #[]) ∧ ∃ F' vV', PrC w' xb (if ec = 0 then toldM S seq 0 bk else toldM S seq 2 0) F' gS cs vT vV' vN RR Fs T ∧ Stp w w' F F' := by
  have HB0 : Hid (Below w.heap.size w (w.alloc (.cells #[.int .u16 src, .int .u16 dst, .int .u8 proto, .int .u16 id, .int .u8 off, .bool more, .int .u16 sport, .int .u16 dport, .slice ao n cap] 40))) := (Below.refl _ _).alloc (Nat.le_refl _) _
  have HTE := hide (fun (f whr : Int) wz (hb : Below w.heap.size w wz) => tell_any xb S F gS cs vT vV vN RR Fs T seq f whr wz (h.below hb) hevl)
  clear h
  by_cases hec : ec = 0
  · subst hec
    rw [if_pos rfl]
    go_enter Tryz.func73, Tryz.ntmps73
    go_wp2_with fail
    refine (HCH.out _ HB0.out).mono ?_
    rintro e w1 ⟨rfl, hb1⟩
    have HB1 : Hid (Below w.heap.size w w1) := HB0.out.trans (hb1.mono (by simp))
    clear hb1
    go_wp2_with fail
    refine (HTE.out 0 bk _ HB1.out).mono ?_
    rintro e w2 ⟨rfl, F', vV', h1, h2⟩
    have HR := hide (And.intro h1 h2)
    clear h1 h2
    go_wp2
    go_end0
    exact ⟨rfl, F', vV', HR.out.1, (Stp.below HB1.out).trans HR.out.2⟩
  · have hb0 : (ec != 0) = true := by simpa using hec
    rw [if_neg hec]
    go_enter Tryz.func73, Tryz.ntmps73
    go_wp2_with fail
    refine (HCH.out _ HB0.out).mono ?_
    rintro e w1 ⟨rfl, hb1⟩
    have HB1 : Hid (Below w.heap.size w w1) := HB0.out.trans (hb1.mono (by simp))
    clear hb1
    go_wp2_with fail
    refine (HTE.out 2 0 _ HB1.out).mono ?_
    rintro e w2 ⟨rfl, F', vV', h1, h2⟩
    have HR := hide (And.intro h1 h2)
    clear h1 h2
    go_wp2
    refine bodyPost_ret (v := .tuple #[]) ?_ rfl ⟨rfl, F', vV', HR.out.1, (Stp.below HB1.out).trans HR.out.2⟩
    go_light
    simp [results, Tryz.results73, go_sem]

theorem Tryz.infoFt : (Tryz.prog.info? 114).map (fun i => (i.zero, i.size, i.bytes)) = some (some (.agg #[.int .i64 0, .int .i64 0, .int .i64 0, .int .u16 0, .int .u16 0, .int .u8 0, .int .u16 0, .int .u8 0, .bool false, .int .u16 0, .int .u16 0, .slice none 0 0, .int .i64 0]), 13, 72) := by kernel_rfl
/-- One more is on its way. -/
theorem PrC.addN {w w2 : World} {xb : Nat} {S : Cl} {F : Nat → Prop} {gS : Nat} {cs : Array Value} {vT vV vN vN' : Value} {RR : Nat → List PE} {Fs : Nat → Nat → Prop} {T : Nat → Int} (h : PrC w xb S F gS cs vT vV vN RR Fs T) (ho : Only (fun k => vN.ownBlock = some k) w w2) (s : Snt)
    (hrow : w2.ownsRow 0 114 13 vN' (S.sent ++ [s]).length ((S.sent ++ [s]).flatMap Snt.pcells)) (lN : ∀ g, vN'.ownBlock = some g → vN.ownBlock = some g ∨ w.heap.size ≤ g) :
    ∃ F', PrC (w2.setCell ⟨xb, 5, none⟩ vN') xb { S with sent := S.sent ++ [s] } F' gS cs vT vV vN' RR Fs T ∧ Stp w (w2.setCell ⟨xb, 5, none⟩ vN') F F' := by
  have hbx : w2.heap[xb]? = _ := (ho.block xb h.lt (own_apart_blk h.rN h.blk (by decide))).trans h.blk
  have hb2 := row_setCell (j := 5) hbx vN'
  have hT2 := own_only h.rT ho (fun g hg hh => own_apart' h.rT h.rN (by decide) hg hh)
  have hV2 := own_only h.rV ho (fun g hg hh => own_apart' h.rV h.rN (by decide) hg hh)
  have ho2 : Only (fun k => k = xb ∨ vN.ownBlock = some k) w (w2.setCell ⟨xb, 5, none⟩ vN') := (ho.mono (fun k _ hk => .inr hk)).setCell (fun _ => .inl rfl) _
  obtain ⟨h1, h2⟩ := h.upd ho2 (fun k hk => hk.elim .inl (fun hk => .inr (.inr (.inr hk)))) { S with sent := S.sent ++ [s] } vT vV vN' (by simpa using hb2) (own_set' hT2 hbx (by decide) _) (own_set' hV2 hbx (by decide) _) (own_set' hrow hbx (by decide) _) (fun g hg => .inl hg) (fun g hg => .inl hg) lN
  exact ⟨_, h1, h2⟩

set_option maxRecDepth 100000 in
set_option maxHeartbeats 3200000 in
theorem send_here (xb : Nat) (seq o : Nat) (frm : Int) (src dst proto id off : Int) (more : Bool) (sport dport : Int) (ao : Option Addr) (n cap : Nat) (Q : World → World → Prop) (w : World) (hn : n ≤ 1000) (hfo : frm = (o : Int))
    (HOW : Hid (∀ wz, Below w.heap.size w wz → Calls Tryz.prog 50 #[.pointer (some ⟨xb, 0, none⟩), .agg #[.int .u16 src, .int .u16 dst, .int .u8 proto, .int .u16 id, .int .u8 off, .bool more, .int .u16 sport, .int .u16 dport, .slice ao n cap]] wz fun e w' => e = .returned (.int .i64 o) ∧ Below wz.heap.size wz w'))
    (HCM : Hid (∀ wz, Below w.heap.size w wz → Calls Tryz.prog 81 #[.pointer (some ⟨xb, 0, none⟩), .agg #[.int .i64 seq, .int .i64 frm, .int .i64 o, .int .u16 src, .int .u16 dst, .int .u8 proto, .int .u16 id, .int .u8 off, .bool more, .int .u16 sport, .int .u16 dport, .slice none 0 0, .int .i64 n]] wz fun e w' => e = .returned (.tuple #[]) ∧ Q wz w')) :
    Calls Tryz.prog 74 #[.pointer (some ⟨xb, 0, none⟩), .int .i64 seq, .int .i64 frm, .agg #[.int .u16 src, .int .u16 dst, .int .u8 proto, .int .u16 id, .int .u8 off, .bool more, .int .u16 sport, .int .u16 dport, .slice ao n cap]] w fun e w' => e = .returned (.tuple #[]) ∧ ∃ wz, Below w.heap.size w wz ∧ Q wz w' := by
  have HOF := hide (fun w => pof_any src dst proto id off more sport dport ao n cap w hn)
  have HW0 : Hid (FxW w.heap.size w #[.int .u16 src, .int .u16 dst, .int .u8 proto, .int .u16 id, .int .u8 off, .bool more, .int .u16 sport, .int .u16 dport, .slice ao n cap] (w.alloc (.cells #[.int .u16 src, .int .u16 dst, .int .u8 proto, .int .u16 id, .int .u8 off, .bool more, .int .u16 sport, .int .u16 dport, .slice ao n cap] 40))) := ⟨(Below.refl _ _).alloc (Nat.le_refl _) _, by simp, box_cell (Below.refl _ _)⟩
  subst hfo
  go_enter Tryz.func74, Tryz.ntmps74
  go_wp2_with fail
  refine (HOW.out _ HW0.out.1).mono ?_
  rintro e w1 ⟨rfl, hb1⟩
  have HW1 := hide (HW0.out.below hb1)
  have cX := HW1.out.2.2
  have hX1 := HW1.out.2.1
  clear hb1 HW0 HOW
  go_wp2_with fail
  refine (HOF.out _).mono ?_
  rintro e w2 ⟨rfl, hb2⟩
  have HW2 := hide (HW1.out.below hb2)
  have HW3 := hide (HW2.out.alloc (.cells #[.int .i64 seq, .int .i64 o, .int .i64 o, .int .u16 src, .int .u16 dst, .int .u8 proto, .int .u16 id, .int .u8 off, .bool more, .int .u16 sport, .int .u16 dport, .slice none 0 0, .int .i64 n] 114))
  clear hb2 cX hX1 HW1 HOF
  go_wp2_with fail
  refine (HCM.out _ HW3.out.1).mono ?_
  rintro e w4 ⟨rfl, hq⟩
  have HQ := hide hq
  clear hq
  go_wp2
  refine bodyPost_ret (v := .tuple #[]) ?_ rfl ⟨rfl, _, HW3.out.1, HQ.out⟩
  go_light
  simp [results, Tryz.results74, go_sem]

set_option maxRecDepth 100000 in
set_option maxHeartbeats 3200000 in
theorem send_away (xb : Nat) (S : Cl) (F : Nat → Prop) (gS : Nat) (cs : Array Value) (vT vV vN : Value) (RR : Nat → List PE) (Fs : Nat → Nat → Prop) (T : Nat → Int) (seq o : Nat) (frm : Int) (src dst proto id off : Int) (more : Bool) (sport dport : Int) (ao : Option Addr) (n cap : Nat) (w : World) (h : PrC w xb S F gS cs vT vV vN RR Fs T) (hn : n ≤ 1000) (hfo : frm ≠ (o : Int)) (hsl : S.sent.length ≤ 1900000000000)
    (HOW : Hid (∀ wz, Below w.heap.size w wz → Calls Tryz.prog 50 #[.pointer (some ⟨xb, 0, none⟩), .agg #[.int .u16 src, .int .u16 dst, .int .u8 proto, .int .u16 id, .int .u8 off, .bool more, .int .u16 sport, .int .u16 dport, .slice ao n cap]] wz fun e w' => e = .returned (.int .i64 o) ∧ Below wz.heap.size wz w')) :
    Calls Tryz.prog 74 #[.pointer (some ⟨xb, 0, none⟩), .int .i64 seq, .int .i64 frm, .agg #[.int .u16 src, .int .u16 dst, .int .u8 proto, .int .u16 id, .int .u8 off, .bool more, .int .u16 sport, .int .u16 dport, .slice ao n cap]] w fun e w' => e = .returned (.tuple #[]) ∧ ∃ F' vN', PrC w' xb { S with sent := S.sent ++ [⟨seq, frm, o, ⟨src, dst, proto, id, off, more, sport, dport, n⟩⟩] } F' gS cs vT vV vN' RR Fs T ∧ Stp w w' F F' := by
  have HOF := hide (fun w => pof_any src dst proto id off more sport dport ao n cap w hn)
  have HW0 : Hid (FxW w.heap.size w #[.int .u16 src, .int .u16 dst, .int .u8 proto, .int .u16 id, .int .u8 off, .bool more, .int .u16 sport, .int .u16 dport, .slice ao n cap] (w.alloc (.cells #[.int .u16 src, .int .u16 dst, .int .u8 proto, .int .u16 id, .int .u8 off, .bool more, .int .u16 sport, .int .u16 dport, .slice ao n cap] 40))) := ⟨(Below.refl _ _).alloc (Nat.le_refl _) _, by simp, box_cell (Below.refl _ _)⟩
  have hne : (o : Int) ≠ frm := fun hh => hfo hh.symm
  have HH := hide h
  have hyb := h.lt
  have c5 : w.cell? ⟨xb, 5, none⟩ = some vN := arr_cell h.blk 5
  obtain ⟨na, nc, hvN⟩ := own_slice h.rN
  rw [hvN] at c5
  clear h hfo
  go_enter Tryz.func74, Tryz.ntmps74
  go_wp2_with fail
  refine (HOW.out _ HW0.out.1).mono ?_
  rintro e w1 ⟨rfl, hb1⟩
  have HW1 := hide (HW0.out.below hb1)
  have cX := HW1.out.2.2
  have hX1 := HW1.out.2.1
  clear hb1 HW0 HOW
  go_wp2_with fail
  refine (HOF.out _).mono ?_
  rintro e w2 ⟨rfl, hb2⟩
  have HW2 := hide (HW1.out.below hb2)
  have HW3 := hide (HW2.out.alloc (.cells #[.int .i64 seq, .int .i64 frm, .int .i64 o, .int .u16 src, .int .u16 dst, .int .u8 proto, .int .u16 id, .int .u8 off, .bool more, .int .u16 sport, .int .u16 dport, .slice none 0 0, .int .i64 n] 114))
  have cB := box_cell (Below.refl (w2.heap.size + 1) (w2.alloc (.cells #[.int .i64 seq, .int .i64 frm, .int .i64 o, .int .u16 src, .int .u16 dst, .int .u8 proto, .int .u16 id, .int .u8 off, .bool more, .int .u16 sport, .int .u16 dport, .slice none 0 0, .int .i64 n] 114)))
  have hz3 : (w2.alloc (.cells #[.int .i64 seq, .int .i64 frm, .int .i64 o, .int .u16 src, .int .u16 dst, .int .u8 proto, .int .u16 id, .int .u8 off, .bool more, .int .u16 sport, .int .u16 dport, .slice none 0 0, .int .i64 n] 114)).heap.size = w2.heap.size + 1 := by simp
  have hX2 := HW2.out.2.1
  clear hb2 cX hX1 HW1 HOF
  go_wp2_with fail
  generalize w2.alloc (.cells #[.int .i64 seq, .int .i64 frm, .int .i64 o, .int .u16 src, .int .u16 dst, .int .u8 proto, .int .u16 id, .int .u8 off, .bool more, .int .u16 sport, .int .u16 dport, .slice none 0 0, .int .i64 n] 114) = w3 at *
  generalize w2.heap.size = D at *
  have hP3 := HH.out.below HW3.out.1
  have HP3 := hide hP3
  have d5 : w3.cell? ⟨xb, 5, none⟩ = some (.slice na S.sent.length nc) := (HW3.out.1.cell (p := ⟨xb, 5, none⟩) hyb).trans c5
  have HRN := hide hP3.rN
  rw [hvN] at HRN
  have hxw3 : xb < w3.heap.size := hP3.lt
  have hD3 : D < w3.heap.size := by omega
  have HB3 := hide hP3.blk
  have HAP : Hid ((Value.slice na S.sent.length nc).ownBlock ≠ some xb) := own_apart_blk HRN.out HB3.out (by decide)
  obtain ⟨i0, hi, hq0, hq1, hq2⟩ := info_parts Tryz.infoFt
  clear hP3 hz3 c5
  go_region_law (refine step_append_lies _ rfl (.tmp 30) (.tmp 32) 67 rfl 0 114 i0 _ 13 72 Tryz.underlying67 hi hq0 hq1 hq2 rfl (by decide) _ S.sent.length _ rfl (World.ownsRow.alloc HRN.out _) ⟨w3.heap.size, 0, none⟩ 1 1 [.int .i64 seq, .int .i64 frm, .int .i64 o, .int .u16 src, .int .u16 dst, .int .u8 proto, .int .u16 id, .int .u8 off, .bool more, .int .u16 sport, .int .u16 dport, .slice none 0 0, .int .i64 n] rfl rfl (cells_new _ _ _) (by simp [Value.oneCell']) (by decide) (by unfold maxLen; omega) (by omega) (Nat.zero_le _) _ rfl ?_; intro g10 cp10 wy hown10 hgrow10 hwh10 hlt10; have yb : wy.heap[xb]? = _ := (hgrow10.block xb (by simp; omega) (fun hh => HAP.out hh.symm)).trans ((Below.heap_alloc _ _ _ hxw3).trans HB3.out); have y5 : wy.cell? ⟨xb, 5, none⟩ = some vN := arr_cell yb 5; have yf := arr_frozen yb 5; have yz : xb < wy.heap.size := lt_of_block yb)
  all_goals (rw [hvN] at y5)
  all_goals go_wp2
  all_goals go_end0
  all_goals
    have ho2 : Only (fun k => vN.ownBlock = some k) w3 wy := by rw [hvN]; exact (((Only.refl _ w3).alloc (.cells #[.int .i64 seq, .int .i64 frm, .int .i64 o, .int .u16 src, .int .u16 dst, .int .u8 proto, .int .u16 id, .int .u8 off, .bool more, .int .u16 sport, .int .u16 dport, .slice none 0 0, .int .i64 n] 114)).drewN 1).grown hgrow10 (fun k _ hk => hk)
    have hadd := HP3.out.addN ho2 ⟨seq, frm, o, ⟨src, dst, proto, id, off, more, sport, dport, n⟩⟩ (vN' := .slice (some ⟨g10, 0, none⟩) (S.sent.length + 1) cp10) (by
      rw [List.length_append, List.flatMap_append]
      exact hown10) (fun q hq => by
      rw [hvN]
      simp only [Value.ownBlock, Option.some.injEq] at hq
      subst hq
      rcases hwh10 with hh | hh
      · exact .inl hh
      · right
        have : g10 = w3.heap.size + 1 := by rw [hh]; simp
        omega)
    obtain ⟨F', h1, h2⟩ := hadd
    exact ⟨rfl, F', _, h1, (Stp.below HW3.out.1).trans h2⟩

end Go.Proofs.YtajphdppmdoalaaGreat

namespace Go.Proofs.YtajphdppmdoalaaGreat
open Go.RowKit
set_option linter.unusedVariables false

set_option maxRecDepth 100000 in
set_option maxHeartbeats 3200000 in
theorem arrive_bad (xb gS N nx : Nat) (rep : Int) (ao : Option Addr) (n cap : Nat) (src dst proto id off : Int) (more : Bool) (sport dport : Int) (da : Option Addr) (dn dc : Nat) (ec : Int) (hec : ec ≠ 0) (Q : World → World → Prop) (cur : Array Value) (w : World) (hblk : w.heap[xb]? = some (.cells cur 69 (0, 0))) (c0 : w.cell? ⟨xb, 0, none⟩ = some (.slice (some ⟨gS, 0, none⟩) N N)) (c3 : w.cell? ⟨xb, 3, none⟩ = some (.int .i64 nx)) (hnx : nx ≤ 2000000000000) (hr0 : 0 ≤ rep) (hr1 : rep < (N : Int))
    (HU : Hid (Calls Tryz.prog 64 #[.slice ao n cap] (w.setCell ⟨xb, 3, none⟩ (.int .i64 ((nx : Int) + 1))) fun e w2 => e = .returned (.tuple #[.agg #[.int .u16 src, .int .u16 dst, .int .u8 proto, .int .u16 id, .int .u8 off, .bool more, .int .u16 sport, .int .u16 dport, .slice da dn dc], .int .i64 ec]) ∧ Below (w.setCell ⟨xb, 3, none⟩ (.int .i64 ((nx : Int) + 1))).heap.size (w.setCell ⟨xb, 3, none⟩ (.int .i64 ((nx : Int) + 1))) w2))
    (HC : Hid (∀ wz, Below (w.setCell ⟨xb, 3, none⟩ (.int .i64 ((nx : Int) + 1))).heap.size (w.setCell ⟨xb, 3, none⟩ (.int .i64 ((nx : Int) + 1))) wz → Calls Tryz.prog 71 #[.pointer (some ⟨xb, 0, none⟩), .int .i64 nx, .int .u8 1, .int .u8 0] wz fun e w' => e = .returned (.tuple #[]) ∧ Q wz w')) :
    Calls Tryz.prog 40 #[.pointer (some ⟨xb, 0, none⟩), .int .i64 rep, .slice ao n cap] w fun e w' => e = .returned (.tuple #[.int .i64 nx, .int .i64 0]) ∧ ∃ wz, Below (w.setCell ⟨xb, 3, none⟩ (.int .i64 ((nx : Int) + 1))).heap.size (w.setCell ⟨xb, 3, none⟩ (.int .i64 ((nx : Int) + 1))) wz ∧ Q wz w' := by
  have hxb := lt_of_block hblk
  have f3 := arr_frozen hblk 3
  have hb0 : (ec != 0) = true := by simpa using hec
  clear hblk
  go_enter Tryz.func40, Tryz.ntmps40
  go_wp2_with fail
  refine HU.out.mono ?_
  rintro e w2 ⟨rfl, hb2⟩
  have HB3 : Hid (Below (w.setCell ⟨xb, 3, none⟩ (.int .i64 ((nx : Int) + 1))).heap.size (w.setCell ⟨xb, 3, none⟩ (.int .i64 ((nx : Int) + 1))) (w2.alloc (.cells #[.int .u16 src, .int .u16 dst, .int .u8 proto, .int .u16 id, .int .u8 off, .bool more, .int .u16 sport, .int .u16 dport, .slice da dn dc] 40))) := hb2.alloc hb2.size _
  have cB := box_cell (Below.refl (w2.heap.size + 1) (w2.alloc (.cells #[.int .u16 src, .int .u16 dst, .int .u8 proto, .int .u16 id, .int .u8 off, .bool more, .int .u16 sport, .int .u16 dport, .slice da dn dc] 40)))
  have hz3 : (w2.alloc (.cells #[.int .u16 src, .int .u16 dst, .int .u8 proto, .int .u16 id, .int .u8 off, .bool more, .int .u16 sport, .int .u16 dport, .slice da dn dc] 40)).heap.size = w2.heap.size + 1 := by simp
  clear hb2 HU
  go_wp2_with fail
  refine (HC.out _ HB3.out).mono ?_
  rintro e w5 ⟨rfl, hq⟩
  have HQ := hide hq
  clear hq
  go_wp2
  go_ret2
  exact ⟨rfl, _, HB3.out, HQ.out⟩

set_option maxRecDepth 100000 in
set_option maxHeartbeats 3200000 in
theorem arrive_whole (xb gS N nx : Nat) (rep : Int) (ao : Option Addr) (n cap : Nat) (src dst proto id off : Int) (more : Bool) (sport dport : Int) (dn : Nat) (Q : World → World → Prop) (cur : Array Value) (w : World) (hblk : w.heap[xb]? = some (.cells cur 69 (0, 0))) (c0 : w.cell? ⟨xb, 0, none⟩ = some (.slice (some ⟨gS, 0, none⟩) N N)) (c3 : w.cell? ⟨xb, 3, none⟩ = some (.int .i64 nx)) (hnx : nx ≤ 2000000000000) (hr0 : 0 ≤ rep) (hr1 : rep < (N : Int))
    (HU : Hid (Calls Tryz.prog 64 #[.slice ao n cap] (w.setCell ⟨xb, 3, none⟩ (.int .i64 ((nx : Int) + 1))) fun e w2 => ∃ da dc, e = .returned (.tuple #[.agg #[.int .u16 src, .int .u16 dst, .int .u8 proto, .int .u16 id, .int .u8 off, .bool more, .int .u16 sport, .int .u16 dport, .slice da dn dc], .int .i64 0]) ∧ Below (w.setCell ⟨xb, 3, none⟩ (.int .i64 ((nx : Int) + 1))).heap.size (w.setCell ⟨xb, 3, none⟩ (.int .i64 ((nx : Int) + 1))) w2))
    (HWH : (decide (off = 0) && !more) = true)
    (HC : Hid (∀ (da : Option Addr) (dc : Nat) wz, Below (w.setCell ⟨xb, 3, none⟩ (.int .i64 ((nx : Int) + 1))).heap.size (w.setCell ⟨xb, 3, none⟩ (.int .i64 ((nx : Int) + 1))) wz → Calls Tryz.prog 73 #[.pointer (some ⟨xb, 0, none⟩), .int .i64 nx, .agg #[.int .u16 src, .int .u16 dst, .int .u8 proto, .int .u16 id, .int .u8 off, .bool more, .int .u16 sport, .int .u16 dport, .slice da dn dc]] wz fun e w' => e = .returned (.tuple #[]) ∧ Q wz w')) :
    Calls Tryz.prog 40 #[.pointer (some ⟨xb, 0, none⟩), .int .i64 rep, .slice ao n cap] w fun e w' => e = .returned (.tuple #[.int .i64 nx, .int .i64 0]) ∧ ∃ wz, Below (w.setCell ⟨xb, 3, none⟩ (.int .i64 ((nx : Int) + 1))).heap.size (w.setCell ⟨xb, 3, none⟩ (.int .i64 ((nx : Int) + 1))) wz ∧ Q wz w' := by
  have hxb := lt_of_block hblk
  have f3 := arr_frozen hblk 3
  have HWA := hide (fun da dc w => whole_any src dst proto id off more sport dport da dn dc w)
  rw [HWH] at HWA
  clear HWH
  clear hblk
  go_enter Tryz.func40, Tryz.ntmps40
  go_wp2_with fail
  refine HU.out.mono ?_
  rintro e w2 ⟨da, dc, rfl, hb2⟩
  have HB3 : Hid (Below (w.setCell ⟨xb, 3, none⟩ (.int .i64 ((nx : Int) + 1))).heap.size (w.setCell ⟨xb, 3, none⟩ (.int .i64 ((nx : Int) + 1))) (w2.alloc (.cells #[.int .u16 src, .int .u16 dst, .int .u8 proto, .int .u16 id, .int .u8 off, .bool more, .int .u16 sport, .int .u16 dport, .slice da dn dc] 40))) := hb2.alloc hb2.size _
  have cB := box_cell (Below.refl (w2.heap.size + 1) (w2.alloc (.cells #[.int .u16 src, .int .u16 dst, .int .u8 proto, .int .u16 id, .int .u8 off, .bool more, .int .u16 sport, .int .u16 dport, .slice da dn dc] 40)))
  have hz3 : (w2.alloc (.cells #[.int .u16 src, .int .u16 dst, .int .u8 proto, .int .u16 id, .int .u8 off, .bool more, .int .u16 sport, .int .u16 dport, .slice da dn dc] 40)).heap.size = w2.heap.size + 1 := by simp
  clear hb2 HU
  go_wp2_with fail
  refine (HWA.out da dc _).mono ?_
  rintro e w4 ⟨rfl, hb4⟩
  have HB4 : Hid (Below (w.setCell ⟨xb, 3, none⟩ (.int .i64 ((nx : Int) + 1))).heap.size (w.setCell ⟨xb, 3, none⟩ (.int .i64 ((nx : Int) + 1))) w4) := HB3.out.trans (hb4.mono (by have := HB3.out.size; omega))
  have hz4 : w2.heap.size < w4.heap.size := by have := hb4.size; omega
  have cB4 := fun j => (hb4.cell (p := ⟨w2.heap.size, j, none⟩) (by simp)).trans (cB j)
  clear hb4 cB HB3 HWA
  go_wp2_with fail
  refine (HC.out da dc _ HB4.out).mono ?_
  rintro e w5 ⟨rfl, hq⟩
  have HQ := hide hq
  clear hq
  go_wp2
  go_ret2
  exact ⟨rfl, _, HB4.out, HQ.out⟩

set_option maxRecDepth 100000 in
set_option maxHeartbeats 3200000 in
theorem arrive_piece (xb gS N nx : Nat) (rep : Int) (ao : Option Addr) (n cap : Nat) (src dst proto id off : Int) (more : Bool) (sport dport : Int) (dn : Nat) (Q : World → World → Prop) (cur : Array Value) (w : World) (hblk : w.heap[xb]? = some (.cells cur 69 (0, 0))) (c0 : w.cell? ⟨xb, 0, none⟩ = some (.slice (some ⟨gS, 0, none⟩) N N)) (c3 : w.cell? ⟨xb, 3, none⟩ = some (.int .i64 nx)) (hnx : nx ≤ 2000000000000) (hr0 : 0 ≤ rep) (hr1 : rep < (N : Int))
    (HU : Hid (Calls Tryz.prog 64 #[.slice ao n cap] (w.setCell ⟨xb, 3, none⟩ (.int .i64 ((nx : Int) + 1))) fun e w2 => ∃ da dc, e = .returned (.tuple #[.agg #[.int .u16 src, .int .u16 dst, .int .u8 proto, .int .u16 id, .int .u8 off, .bool more, .int .u16 sport, .int .u16 dport, .slice da dn dc], .int .i64 0]) ∧ Below (w.setCell ⟨xb, 3, none⟩ (.int .i64 ((nx : Int) + 1))).heap.size (w.setCell ⟨xb, 3, none⟩ (.int .i64 ((nx : Int) + 1))) w2))
    (HWH : (decide (off = 0) && !more) = false)
    (HC : Hid (∀ (da : Option Addr) (dc : Nat) wz, Below (w.setCell ⟨xb, 3, none⟩ (.int .i64 ((nx : Int) + 1))).heap.size (w.setCell ⟨xb, 3, none⟩ (.int .i64 ((nx : Int) + 1))) wz → Calls Tryz.prog 74 #[.pointer (some ⟨xb, 0, none⟩), .int .i64 nx, .int .i64 rep, .agg #[.int .u16 src, .int .u16 dst, .int .u8 proto, .int .u16 id, .int .u8 off, .bool more, .int .u16 sport, .int .u16 dport, .slice da dn dc]] wz fun e w' => e = .returned (.tuple #[]) ∧ Q wz w')) :
    Calls Tryz.prog 40 #[.pointer (some ⟨xb, 0, none⟩), .int .i64 rep, .slice ao n cap] w fun e w' => e = .returned (.tuple #[.int .i64 nx, .int .i64 0]) ∧ ∃ wz, Below (w.setCell ⟨xb, 3, none⟩ (.int .i64 ((nx : Int) + 1))).heap.size (w.setCell ⟨xb, 3, none⟩ (.int .i64 ((nx : Int) + 1))) wz ∧ Q wz w' := by
  have hxb := lt_of_block hblk
  have f3 := arr_frozen hblk 3
  have HWA := hide (fun da dc w => whole_any src dst proto id off more sport dport da dn dc w)
  rw [HWH] at HWA
  clear HWH
  clear hblk
  go_enter Tryz.func40, Tryz.ntmps40
  go_wp2_with fail
  refine HU.out.mono ?_
  rintro e w2 ⟨da, dc, rfl, hb2⟩
  have HB3 : Hid (Below (w.setCell ⟨xb, 3, none⟩ (.int .i64 ((nx : Int) + 1))).heap.size (w.setCell ⟨xb, 3, none⟩ (.int .i64 ((nx : Int) + 1))) (w2.alloc (.cells #[.int .u16 src, .int .u16 dst, .int .u8 proto, .int .u16 id, .int .u8 off, .bool more, .int .u16 sport, .int .u16 dport, .slice da dn dc] 40))) := hb2.alloc hb2.size _
  have cB := box_cell (Below.refl (w2.heap.size + 1) (w2.alloc (.cells #[.int .u16 src, .int .u16 dst, .int .u8 proto, .int .u16 id, .int .u8 off, .bool more, .int .u16 sport, .int .u16 dport, .slice da dn dc] 40)))
  have hz3 : (w2.alloc (.cells #[.int .u16 src, .int .u16 dst, .int .u8 proto, .int .u16 id, .int .u8 off, .bool more, .int .u16 sport, .int .u16 dport, .slice da dn dc] 40)).heap.size = w2.heap.size + 1 := by simp
  clear hb2 HU
  go_wp2_with fail
  refine (HWA.out da dc _).mono ?_
  rintro e w4 ⟨rfl, hb4⟩
  have HB4 : Hid (Below (w.setCell ⟨xb, 3, none⟩ (.int .i64 ((nx : Int) + 1))).heap.size (w.setCell ⟨xb, 3, none⟩ (.int .i64 ((nx : Int) + 1))) w4) := HB3.out.trans (hb4.mono (by have := HB3.out.size; omega))
  have hz4 : w2.heap.size < w4.heap.size := by have := hb4.size; omega
  have cB4 := fun j => (hb4.cell (p := ⟨w2.heap.size, j, none⟩) (by simp)).trans (cB j)
  clear hb4 cB HB3 HWA
  go_wp2_with fail
  refine (HC.out da dc _ HB4.out).mono ?_
  rintro e w5 ⟨rfl, hq⟩
  have HQ := hide hq
  clear hq
  go_wp2
  go_ret2
  exact ⟨rfl, _, HB4.out, HQ.out⟩

end Go.Proofs.YtajphdppmdoalaaGreat
