import Derived.Test.YtajphdppmdoalaaGreatZZ2toZ2
import Derived.Test.YtajphdppmdoalaaGreatZZ3toZ3
import Derived.Test.YtajphdppmdoalaaGreatZMLtoZ1
import Derived.Test.YtajphdppmdoalaaGreatZOEtoOG
import Derived.Test.YtajphdppmdoalaaGreatZOLtoMG
import Derived.Test.YtajphdppmdoalaaGreatZJ1toLM
namespace Go.Proofs.YtajphdppmdoalaaGreat
open Go.RowKit
set_option linter.unusedVariables false

theorem rup_err {w : World} {zs : List Int} {args : Array Value} {c : Int} (hc : upC zs = c) (h0 : c ≠ 0)
    (h : Calls Tryz.prog 32 args w fun e w' => e = .returned (.tuple #[.agg #[.int .u16 0, .int .u16 0, .int .u8 0, .int .u16 0, .int .u8 0, .bool false, .int .u16 0, .int .u16 0, .slice none 0 0], .int .i64 c]) ∧ Below w.heap.size w w') :
    Calls Tryz.prog 32 args w (UpPost w zs) := by
  refine h.mono ?_
  rintro e w' ⟨rfl, hb⟩
  exact ⟨hb, .inr ⟨by rw [hc]; exact h0, by rw [hc]⟩⟩

theorem runpack_any (ao : Option Addr) (n cap : Nat) (zs : List Int) (w : World) (hl : zs.length = n) (hcap : n ≤ cap) (hm : cap ≤ maxLen) (hd : Has w ao zs) (hz : ∀ z ∈ zs, 0 ≤ z ∧ z ≤ 255) :
    Calls Tryz.prog 32 #[.slice ao n cap] w (UpPost w zs) := by
  by_cases h12 : n < 12
  · refine rup_err (c := 2) ?_ (by decide) (runpack_short ao n cap w h12)
    unfold upC
    split
    · simp at hl; omega
    · rfl
  have hnm : n ≤ 9223372036854775807 := by unfold maxLen at hm; omega
  obtain ⟨h0, h1, h2, h3, h4, h5, h6, h7, h8, h9, h10, h11, r, rfl⟩ := split12 zs (by omega)
  obtain ⟨b, o, rfl, _, _⟩ := hd.2 (by simp)
  simp only [List.length_append, List.length_cons, List.length_nil] at hl
  have b0 := hz h0 (by simp)
  have b1 := hz h1 (by simp)
  have b2 := hz h2 (by simp)
  have b3 := hz h3 (by simp)
  have b4 := hz h4 (by simp)
  have b5 := hz h5 (by simp)
  have b6 := hz h6 (by simp)
  have b7 := hz h7 (by simp)
  have b8 := hz h8 (by simp)
  have b9 := hz h9 (by simp)
  have b10 := hz h10 (by simp)
  have b11 := hz h11 (by simp)
  have hr : ∀ z ∈ r, 0 ≤ z ∧ z ≤ 255 := fun z hz' => hz z (by simp [hz'])
  clear hz
  by_cases hmk : h0 ≠ 16 ∧ h0 ≠ 17
  · exact rup_err (c := 3) (by simp [upC, hmk]) (by decide) (runpack_mark b o n cap h0 h1 h2 h3 h4 h5 h6 h7 h8 h9 h10 h11 r w (by omega) hnm hd b0 b1 b2 b3 b4 b5 b6 b7 b8 b9 b10 b11 (by simp; omega))
  have q0 : (h0 / 2 != 8) = false := by simp; omega
  have hU : upC ([h0, h1, h2, h3, h4, h5, h6, h7, h8, h9, h10, h11] ++ r) = if (r.length : Int) ≠ h9 ∨ (h8 = 0 ∧ r.length < 4) then 4
    else if h10 * 256 + h11 ≠ csum h0 h1 h2 h3 h4 h5 h6 h7 h8 h9 then 5
    else if wfB h8 (h0 == 17) (spOf h8 r) (dpOf h8 r) (dtOf h8 r).length = false then 6 else 0 := by
    show (if _ then _ else _) = _
    rw [if_neg hmk]
    rfl
  clear hmk
  by_cases h9r : (r.length : Int) ≠ h9
  · exact rup_err (c := 4) (by rw [hU, if_pos (.inl h9r)]) (by decide) (runpack_lenA b o n cap h0 h1 h2 h3 h4 h5 h6 h7 h8 h9 h10 h11 r w (by omega) hnm hd b0 b1 b2 b3 b4 b5 b6 b7 b8 b9 b10 b11 q0 (by simp; omega))
  have h9r' : (r.length : Int) = h9 := by omega
  clear h9r
  have q9 : (h9 + 12 != (n : Int)) = false := by simp; omega
  by_cases h8r : h8 = 0 ∧ r.length < 4
  · obtain ⟨rfl, hr4⟩ := h8r
    exact rup_err (c := 4) (by rw [hU, if_pos (.inr ⟨rfl, hr4⟩)]) (by decide) (runpack_lenB b o n cap h0 h1 h2 h3 h4 h5 h6 h7 h9 h10 h11 r w (by omega) hnm hd b0 b1 b2 b3 b4 b5 b6 b7 b9 b10 b11 q0 q9 (by omega))
  rw [if_neg (by intro h; rcases h with h | h; exact h h9r'; exact h8r h)] at hU
  by_cases hsum : h10 * 256 + h11 ≠ csum h0 h1 h2 h3 h4 h5 h6 h7 h8 h9
  · refine rup_err (c := 5) (by rw [hU, if_pos hsum]) (by decide) ?_
    by_cases h80 : h8 = 0
    · subst h80
      exact runpack_sumP b o n cap h0 h1 h2 h3 h4 h5 h6 h7 h9 h10 h11 r w (by omega) hnm hd b0 b1 b2 b3 b4 b5 b6 b7 b9 b10 b11 q0 q9 (by omega) (by simpa using Ne.symm hsum)
    · exact runpack_sumQ b o n cap h0 h1 h2 h3 h4 h5 h6 h7 h8 h9 h10 h11 r w (by omega) hnm hd b0 b1 b2 b3 b4 b5 b6 b7 b8 b9 b10 b11 q0 q9 (by simpa using h80) (by simpa using Ne.symm hsum)
  rw [if_neg hsum] at hU
  have hsum' : h10 * 256 + h11 = csum h0 h1 h2 h3 h4 h5 h6 h7 h8 h9 := by simpa using hsum
  clear hsum
  have fin : ∀ (sp dp : Int) (d : List Int), spOf h8 r = sp → dpOf h8 r = dp → dtOf h8 r = d → ∀ (e : Ending) (w' : World), Below w.heap.size w w' ∧
      ((wfB h8 (h0 == 17) sp dp d.length = true ∧ ∃ v, e = .returned (.tuple #[.agg #[.int .u16 (h2 * 256 + h3), .int .u16 (h4 * 256 + h5), .int .u8 h1, .int .u16 (h6 * 256 + h7), .int .u8 h8, .bool (h0 == 17), .int .u16 sp, .int .u16 dp, v], .int .i64 0]) ∧ w'.ownsRow w.heap.size 5 1 v d.length (d.map (Value.int .u8)))
      ∨ (wfB h8 (h0 == 17) sp dp d.length = false ∧ e = .returned (.tuple #[.agg #[.int .u16 0, .int .u16 0, .int .u8 0, .int .u16 0, .int .u8 0, .bool false, .int .u16 0, .int .u16 0, .slice none 0 0], .int .i64 6]))) → UpPost w ([h0, h1, h2, h3, h4, h5, h6, h7, h8, h9, h10, h11] ++ r) e w' := by
    rintro sp dp d rfl rfl rfl e w' ⟨hb, h⟩
    refine ⟨hb, ?_⟩
    rcases h with ⟨hw, v, he, ho⟩ | ⟨hw, he⟩
    · exact .inl ⟨by rw [hU, if_neg (by rw [hw]; decide)], v, he, ho⟩
    · have hc : upC ([h0, h1, h2, h3, h4, h5, h6, h7, h8, h9, h10, h11] ++ r) = 6 := by rw [hU, if_pos hw]
      exact .inr ⟨by rw [hc]; decide, by rw [hc]; exact he⟩
  clear hU
  by_cases h80 : h8 = 0
  · subst h80
    obtain ⟨p0, p1, p2, p3, d, rfl⟩ := split4 r (by omega)
    have bp0 := hr p0 (by simp)
    have bp1 := hr p1 (by simp)
    have bp2 := hr p2 (by simp)
    have bp3 := hr p3 (by simp)
    simp only [List.length_append, List.length_cons, List.length_nil] at hl h9r'
    by_cases hde : d = []
    · subst hde
      obtain rfl : n = 16 := by simpa using hl.symm
      have h94 : h9 = 4 := by simpa using h9r'.symm
      by_cases hce : cap = 16
      · subst hce
        exact (runpack_p_e0 b o h0 h1 h2 h3 h4 h5 h6 h7 h9 h10 h11 p0 p1 p2 p3 w hd b0 b1 b2 b3 b4 b5 b6 b7 b9 b10 b11 bp0 bp1 bp2 bp3 q0 h94 hsum').mono (fin _ _ [] rfl rfl rfl)
      · exact (runpack_p_e1 b o cap h0 h1 h2 h3 h4 h5 h6 h7 h9 h10 h11 p0 p1 p2 p3 w (by omega) hm hd b0 b1 b2 b3 b4 b5 b6 b7 b9 b10 b11 bp0 bp1 bp2 bp3 q0 h94 hsum').mono (fin _ _ [] rfl rfl rfl)
    · have hd0 : 0 < d.length := by cases d with | nil => exact absurd rfl hde | cons _ _ => simp
      exact (runpack_p_ne b o n cap h0 h1 h2 h3 h4 h5 h6 h7 h9 h10 h11 p0 p1 p2 p3 d w (by omega) hd0 hcap hm hd b0 b1 b2 b3 b4 b5 b6 b7 b9 b10 b11 bp0 bp1 bp2 bp3 q0 (by omega) hsum').mono (fin _ _ d rfl rfl rfl)
  · have h80' : (h8 == 0) = false := by simpa using h80
    have esp : spOf h8 r = 0 := by unfold spOf; split; exact if_neg h80; rfl
    have edp : dpOf h8 r = 0 := by unfold dpOf; split; exact if_neg h80; rfl
    have edt : dtOf h8 r = r := if_neg h80
    by_cases hde : r = []
    · subst hde
      obtain rfl : n = 12 := by simpa using hl.symm
      have h94 : h9 = 0 := by simpa using h9r'.symm
      by_cases hce : cap = 12
      · subst hce
        exact (runpack_q_e0 b o h0 h1 h2 h3 h4 h5 h6 h7 h8 h9 h10 h11 w hd b0 b1 b2 b3 b4 b5 b6 b7 b8 b9 b10 b11 h80' q0 h94 hsum').mono (fin _ _ [] esp edp edt)
      · exact (runpack_q_e1 b o cap h0 h1 h2 h3 h4 h5 h6 h7 h8 h9 h10 h11 w (by omega) hm hd b0 b1 b2 b3 b4 b5 b6 b7 b8 b9 b10 b11 h80' q0 h94 hsum').mono (fin _ _ [] esp edp edt)
    · have hd0 : 0 < r.length := by cases r with | nil => exact absurd rfl hde | cons _ _ => simp
      exact (runpack_q_ne b o n cap h0 h1 h2 h3 h4 h5 h6 h7 h8 h9 h10 h11 r w (by omega) hd0 hcap hm hd b0 b1 b2 b3 b4 b5 b6 b7 b8 b9 b10 b11 h80' q0 (by omega) hsum').mono (fin _ _ r esp edp edt)

end Go.Proofs.YtajphdppmdoalaaGreat

namespace Go.Proofs.YtajphdppmdoalaaGreat
open Go.RowKit
set_option linter.unusedVariables false

set_option maxRecDepth 100000 in
set_option maxHeartbeats 1600000 in
theorem rbackends_any (yb : Nat) (S : Cl) (F : Nat → Prop) (vS vE vN vV : Value) (ES : List RE) (NS : List RN) (ao : Option Addr) (n cap : Nat) (zs : List Int) (w : World) (h : RefIs w yb S F vS vE vN vV ES NS) (hl : zs.length = n) (hd : Has w ao zs) (hn : n ≤ 9223372036854775807) (hz : ∀ z ∈ zs, 0 ≤ z ∧ z ≤ 255) :
    Calls Tryz.prog 39 #[.pointer (some ⟨yb, 0, none⟩), .slice ao n cap] w fun e w' =>
      (alB zs = false ∧ e = .returned (.int .i64 1) ∧ Below w.heap.size w w') ∨ (alB zs = true ∧ e = .returned (.int .i64 0) ∧ ∃ F' vS', RefIs w' yb (backM S (tblOf zs)) F' vS' vE vN vV ES NS ∧ Stp w w' F F') := by
  have HAL := hide (allowed_any ao n cap zs w hl hd hn)
  have HH := hide h
  have HD := hide hd
  have HZ := hide hz
  obtain ⟨_, ht⟩ := alB_tE zs hz
  cases hal : alB zs with
  | false =>
    rw [hal] at HAL
    clear h hd hz ht hal
    go_enter Tryz.func39, Tryz.ntmps39
    go_wp2_with fail
    refine HAL.out.mono ?_
    rintro e w2 ⟨rfl, m, rfl⟩
    go_wp2
    go_ret
    exact .inl ⟨trivial, rfl, below_drew (Below.refl _ _) m⟩
  | true =>
    rw [hal] at HAL
    obtain ⟨hnd, h6, _⟩ := ht hal
    rw [hl] at h6
    have HND := hide hnd
    clear h hd hz ht hal hnd
    have fin : Hid (∀ (w2 w3 : World) (v : Value), Below w.heap.size w w3 → w3.ownsRow w.heap.size 5 1 v (tblOf zs).length ((tblOf zs).map (Value.int .u8)) → ∃ F' vS', RefIs (w3.setCell ⟨yb, 4, none⟩ v) yb (backM S (tblOf zs)) F' vS' vE vN vV ES NS ∧ Stp w (w3.setCell ⟨yb, 4, none⟩ v) F F') := by
      intro w2 w3 v hb ho
      have := HH.out.setS (Only.of_below hb) (tblOf zs) v (own_zero ho) (fun g hg => .inr (ho.lt g hg).1)
      exact ⟨_, _, this.1, this.2⟩
    go_enter Tryz.func39, Tryz.ntmps39
    go_wp2_with fail
    refine HAL.out.mono ?_
    rintro e w2 ⟨rfl, m, rfl⟩
    have HB2 : Hid (Below w.heap.size w (w.drewN m)) := below_drew (Below.refl _ _) m
    have hz2 : (w.drewN m).heap.size = w.heap.size := rfl
    generalize w.drewN m = w2 at *
    by_cases h0 : n = 0
    · have hzs : zs = [] := List.eq_nil_of_length_eq_zero (by omega)
      have htb : tblOf zs = [] := by unfold tblOf; rw [if_pos (by omega)]
      have HSL := hide (slots_none ao cap w2 (by rw [← hzs]; exact HD.out.below HB2.out))
      subst h0
      have HTB := hide htb
      clear hzs htb HAL
      go_wp2_with fail
      refine HSL.out.mono ?_
      rintro e w3 ⟨rfl, hb3⟩
      have HB3 : Hid (Below w.heap.size w w3) := HB2.out.trans (hb3.mono (by omega))
      have HR3 := hide (HH.out.below HB3.out)
      have hy3 : yb < w3.heap.size := HR3.out.lt
      have dY := arr_cell HR3.out.blk
      have fY := arr_frozen HR3.out.blk
      have HFIN := hide (fin.out w2 w3 (.slice none 0 0) HB3.out (by rw [HTB.out]; exact World.ownsRow_nil _ _ _ _))
      clear hb3 HSL
      obtain ⟨sa, sc, hvS⟩ := own_slice HH.out.rS
      subst hvS
      go_wp2
      go_ret
      exact .inr ⟨trivial, rfl, HFIN.out⟩
    · have htb : tblOf zs = tbl zs := by unfold tblOf; rw [if_neg (by omega)]
      have HSL := hide (slots_ok ao n cap zs w2 hl (HD.out.below HB2.out) (by omega) h6 HZ.out HND.out)
      have HTB := hide htb
      clear htb HAL
      go_wp2_with fail
      refine HSL.out.mono ?_
      rintro e w3 ⟨v, rfl, ho3, hv3, hb3⟩
      have HB3 : Hid (Below w.heap.size w w3) := HB2.out.trans (hb3.mono (by omega))
      have HR3 := hide (HH.out.below HB3.out)
      have hy3 : yb < w3.heap.size := HR3.out.lt
      have dY := arr_cell HR3.out.blk
      have fY := arr_frozen HR3.out.blk
      have HFIN := hide (fin.out w2 w3 v HB3.out (by rw [HTB.out, tbl_len]; exact ownsRow_base ho3 (by omega)))
      obtain ⟨va, vc, hvv⟩ := own_slice ho3
      subst hvv
      clear hb3 HSL ho3 hv3
      obtain ⟨sa, sc, hvS⟩ := own_slice HH.out.rS
      subst hvS
      go_wp2
      go_ret
      exact .inr ⟨trivial, rfl, HFIN.out⟩

end Go.Proofs.YtajphdppmdoalaaGreat

namespace Go.Proofs.YtajphdppmdoalaaGreat
open Go.RowKit
set_option linter.unusedVariables false

end Go.Proofs.YtajphdppmdoalaaGreat

namespace Go.Proofs.YtajphdppmdoalaaGreat
open Go.RowKit
set_option linter.unusedVariables false

/-- What is known of the bytes of a list that came in. -/
def Lst (w : World) (ao : Option Addr) (n cap : Nat) (zs : List Int) : Prop := zs.length = n ∧ Has w ao zs ∧ (∀ z ∈ zs, 0 ≤ z ∧ z ≤ 255) ∧ n ≤ 140737488351232 ∧ (ao = none → cap = 0) ∧ n ≤ cap ∧ cap ≤ maxLen
theorem Lst.below {w w' : World} {ao : Option Addr} {n cap : Nat} {zs : List Int} (h : Lst w ao n cap zs) (hb : Below w.heap.size w w') : Lst w' ao n cap zs := ⟨h.1, h.2.1.below hb, h.2.2⟩

end Go.Proofs.YtajphdppmdoalaaGreat

namespace Go.Proofs.YtajphdppmdoalaaGreat
open Go.RowKit
set_option linter.unusedVariables false

/-- A step of a script, as it lies in memory. -/
structure StepIs (w : World) (b o : Nat) (kind ee aa bb src dst proto id off : Int) (more : Bool) (sport dport : Int) (ao : Option Addr) (n cap : Nat) (zs : List Int) (so : Option Addr) (sn sc : Nat) (ys : List Int) : Prop where
  cell : ∀ j v, [.int .i64 kind, .int .i64 ee, .int .i64 aa, .int .i64 bb, .int .u16 src, .int .u16 dst, .int .u8 proto, .int .u16 id, .int .u8 off, .bool more, .int .u16 sport, .int .u16 dport, .slice ao n cap, .slice so sn sc][j]? = some v → w.cell? ⟨b, o + j, none⟩ = some v
  lt : b < w.heap.size
  src0 : 0 ≤ src ∧ src ≤ 65535
  dst0 : 0 ≤ dst ∧ dst ≤ 65535
  proto0 : 0 ≤ proto ∧ proto ≤ 255
  id0 : 0 ≤ id ∧ id ≤ 65535
  off0 : 0 ≤ off ∧ off ≤ 255
  sport0 : 0 ≤ sport ∧ sport ≤ 65535
  dport0 : 0 ≤ dport ∧ dport ≤ 65535
  kind0 : -9223372036854775808 ≤ kind ∧ kind ≤ 9223372036854775807
  ee0 : -9223372036854775808 ≤ ee ∧ ee ≤ 9223372036854775807
  data : Lst w ao n cap zs
  bytes : Lst w so sn sc ys
/-- A script, as it lies in memory. -/
def Script (w : World) (b o N : Nat) : Prop := ∀ i, i < N → ∃ kind ee aa bb src dst proto id off more sport dport ao n cap zs so sn sc ys, StepIs w b (o + i * 14) kind ee aa bb src dst proto id off more sport dport ao n cap zs so sn sc ys

theorem StepIs.below {w w' : World} {b o : Nat} {kind ee aa bb src dst proto id off : Int} {more : Bool} {sport dport : Int} {ao : Option Addr} {n cap : Nat} {zs : List Int} {so : Option Addr} {sn sc : Nat} {ys : List Int} (h : StepIs w b o kind ee aa bb src dst proto id off more sport dport ao n cap zs so sn sc ys) (hb : Below w.heap.size w w') : StepIs w' b o kind ee aa bb src dst proto id off more sport dport ao n cap zs so sn sc ys :=
  ⟨fun j v hv => (hb.cell (p := ⟨b, o + j, none⟩) h.lt).trans (h.cell j v hv), Nat.lt_of_lt_of_le h.lt hb.size, h.src0, h.dst0, h.proto0, h.id0, h.off0, h.sport0, h.dport0, h.kind0, h.ee0, h.data.below hb, h.bytes.below hb⟩

end Go.Proofs.YtajphdppmdoalaaGreat

namespace Go.Proofs.YtajphdppmdoalaaGreat
open Go.RowKit
set_option linter.unusedVariables false

/-- A pair and a step, as the callee boxes them. -/
def Bx (w : World) (A B : Array Value) (wz : World) : Prop := (∀ j, wz.cell? ⟨w.heap.size, j, none⟩ = A[j]?) ∧ w.heap.size + 1 < wz.heap.size ∧ ∀ j, wz.cell? ⟨w.heap.size + 1, j, none⟩ = B[j]?
theorem bx_start (w : World) (A B : Array Value) (s t : TypeId) : Bx w A B ((w.alloc (.cells A s)).alloc (.cells B t)) := by
  have hb : Below (w.heap.size + 1) (w.alloc (.cells A s)) ((w.alloc (.cells A s)).alloc (.cells B t)) := (Below.refl _ _).alloc (by simp) _
  refine ⟨box_cell hb, by simp, fun j => ?_⟩
  have := box_cell (w := w.alloc (.cells A s)) (cs := B) (t := t) (Below.refl _ _) j
  rwa [World.size_alloc] at this
theorem Bx.only {w wz w' : World} {A B : Array Value} {F : Nat → Prop} (h : Bx w A B wz) (ho : Only F wz w') (h1 : ¬ F w.heap.size) (h2 : ¬ F (w.heap.size + 1)) : Bx w A B w' :=
  ⟨fun j => (ho.cell (p := ⟨w.heap.size, j, none⟩) (by show w.heap.size < _; have := h.2.1; omega) h1).trans (h.1 j), Nat.lt_of_lt_of_le h.2.1 ho.size, fun j => (ho.cell (p := ⟨w.heap.size + 1, j, none⟩) h.2.1 h2).trans (h.2.2 j)⟩

set_option maxRecDepth 100000 in
set_option maxHeartbeats 1600000 in
theorem small_choose (xb yb : Nat) (ee aa bb src dst proto id off : Int) (more : Bool) (sport dport : Int) (dso : Option Addr) (dsn dsc : Nat) (ao : Option Addr) (n cap : Nat) (w : World) (Q0 Q1 Q2 : World → Prop) (ca ce co : Int)
    (HX : Hid (∀ wz, Q0 wz → Calls Tryz.prog 48 #[.pointer (some ⟨xb, 0, none⟩), .agg #[.int .u16 src, .int .u16 dst, .int .u8 proto, .int .u16 id, .int .u8 off, .bool more, .int .u16 sport, .int .u16 dport, .slice dso dsn dsc]] wz fun e w' => e = .returned (.tuple #[.int .u8 ca, .int .i64 ce]) ∧ Q0 w'))
    (HY : Hid (∀ wz, Q0 wz → Calls Tryz.prog 49 #[.pointer (some ⟨yb, 0, none⟩), .agg #[.int .u16 src, .int .u16 dst, .int .u8 proto, .int .u16 id, .int .u8 off, .bool more, .int .u16 sport, .int .u16 dport, .slice dso dsn dsc]] wz fun e w' => e = .returned (.tuple #[.int .u8 ca, .int .i64 ce]) ∧ Q0 w'))
    (HOX : Hid (∀ wz, Q0 wz → Calls Tryz.prog 50 #[.pointer (some ⟨xb, 0, none⟩), .agg #[.int .u16 src, .int .u16 dst, .int .u8 proto, .int .u16 id, .int .u8 off, .bool more, .int .u16 sport, .int .u16 dport, .slice dso dsn dsc]] wz fun e w' => e = .returned (.int .i64 co) ∧ Q0 w'))
    (HOY : Hid (∀ wz, Q0 wz → Calls Tryz.prog 51 #[.pointer (some ⟨yb, 0, none⟩), .agg #[.int .u16 src, .int .u16 dst, .int .u8 proto, .int .u16 id, .int .u8 off, .bool more, .int .u16 sport, .int .u16 dport, .slice dso dsn dsc]] wz fun e w' => e = .returned (.int .i64 co) ∧ Q2 w'))
    (HB0 : Hid (∀ wz, Q0 wz → Bx w #[.pointer (some ⟨xb, 0, none⟩), .pointer (some ⟨yb, 0, none⟩)] #[.int .i64 7, .int .i64 ee, .int .i64 aa, .int .i64 bb, .int .u16 src, .int .u16 dst, .int .u8 proto, .int .u16 id, .int .u8 off, .bool more, .int .u16 sport, .int .u16 dport, .slice dso dsn dsc, .slice ao n cap] wz)) (HB1 : Hid (∀ wz, Q1 wz → Bx w #[.pointer (some ⟨xb, 0, none⟩), .pointer (some ⟨yb, 0, none⟩)] #[.int .i64 7, .int .i64 ee, .int .i64 aa, .int .i64 bb, .int .u16 src, .int .u16 dst, .int .u8 proto, .int .u16 id, .int .u8 off, .bool more, .int .u16 sport, .int .u16 dport, .slice dso dsn dsc, .slice ao n cap] wz))
    (H0 : Hid (Q0 ((w.alloc (.cells #[.pointer (some ⟨xb, 0, none⟩), .pointer (some ⟨yb, 0, none⟩)] 52)).alloc (.cells #[.int .i64 7, .int .i64 ee, .int .i64 aa, .int .i64 bb, .int .u16 src, .int .u16 dst, .int .u8 proto, .int .u16 id, .int .u8 off, .bool more, .int .u16 sport, .int .u16 dport, .slice dso dsn dsc, .slice ao n cap] 42)))) :
    Calls Tryz.prog 22 #[.agg #[.pointer (some ⟨xb, 0, none⟩), .pointer (some ⟨yb, 0, none⟩)], .agg #[.int .i64 7, .int .i64 ee, .int .i64 aa, .int .i64 bb, .int .u16 src, .int .u16 dst, .int .u8 proto, .int .u16 id, .int .u8 off, .bool more, .int .u16 sport, .int .u16 dport, .slice dso dsn dsc, .slice ao n cap]] w fun e w' => e = .returned (.bool true) ∧ Q2 w' := by
  go_enter Tryz.func22, Tryz.ntmps22
  go_wp2_with fail
  generalize ((w.alloc (.cells #[.pointer (some ⟨xb, 0, none⟩), .pointer (some ⟨yb, 0, none⟩)] 52)).alloc (.cells #[.int .i64 7, .int .i64 ee, .int .i64 aa, .int .i64 bb, .int .u16 src, .int .u16 dst, .int .u8 proto, .int .u16 id, .int .u8 off, .bool more, .int .u16 sport, .int .u16 dport, .slice dso dsn dsc, .slice ao n cap] 42)) = w2 at *
  refine (HX.out _ H0.out).mono ?_
  rintro e w3 ⟨rfl, hq⟩
  have x1 := (HB0.out w3 hq).1
  have x2 := (HB0.out w3 hq).2.1
  have x3 := (HB0.out w3 hq).2.2
  have HYY := hide (HY.out w3 hq)
  clear hq
  go_wp2_with fail
  refine HYY.out.mono ?_
  rintro e w4 ⟨rfl, hq⟩
  clear x1 x2 x3 HYY
  have x1 := (HB0.out w4 hq).1
  have x2 := (HB0.out w4 hq).2.1
  have x3 := (HB0.out w4 hq).2.2
  have HYY := hide (HOX.out w4 hq)
  clear hq
  go_wp2_with fail
  refine HYY.out.mono ?_
  rintro e w5 ⟨rfl, hq⟩
  clear x1 x2 x3 HYY
  have x1 := (HB0.out w5 hq).1
  have x2 := (HB0.out w5 hq).2.1
  have x3 := (HB0.out w5 hq).2.2
  have HYY := hide (HOY.out w5 hq)
  clear hq
  go_wp2_with fail
  refine HYY.out.mono ?_
  rintro e w6 ⟨rfl, hq⟩
  have HQ := hide hq
  clear hq HYY x1 x2 x3
  go_wp2
  go_ret
  exact ⟨by simp, HQ.out⟩

end Go.Proofs.YtajphdppmdoalaaGreat
