import Derived.Test.YtajphdppmdoalaaGreatZFtoF
import Derived.Test.YtajphdppmdoalaaGreatZG16ptoG16p
import Derived.Test.YtajphdppmdoalaaGreatZG17ptoG17p
import Derived.Test.YtajphdppmdoalaaGreatZG16qtoG16q
import Derived.Test.YtajphdppmdoalaaGreatZG17qtoG17q
import Derived.Laws.BytesArg
import Derived.ArgAppend
import Derived.Test.YtajphdppmdoalaaGreatZJ4toE
import Derived.Test.YtajphdppmdoalaaGreatZJ1toLM
namespace Go.Proofs.YtajphdppmdoalaaGreat
open Go.RowKit

theorem split12 : ∀ (zs : List Int), 12 ≤ zs.length → ∃ h0 h1 h2 h3 h4 h5 h6 h7 h8 h9 h10 h11 r, zs = [h0, h1, h2, h3, h4, h5, h6, h7, h8, h9, h10, h11] ++ r
  | h0 :: h1 :: h2 :: h3 :: h4 :: h5 :: h6 :: h7 :: h8 :: h9 :: h10 :: h11 :: r, _ => ⟨h0, h1, h2, h3, h4, h5, h6, h7, h8, h9, h10, h11, r, rfl⟩
  | [], h => absurd h (by simp)
  | [_], h => absurd h (by simp)
  | [_, _], h => absurd h (by simp)
  | [_, _, _], h => absurd h (by simp)
  | [_, _, _, _], h => absurd h (by simp)
  | [_, _, _, _, _], h => absurd h (by simp)
  | [_, _, _, _, _, _], h => absurd h (by simp)
  | [_, _, _, _, _, _, _], h => absurd h (by simp)
  | [_, _, _, _, _, _, _, _], h => absurd h (by simp)
  | [_, _, _, _, _, _, _, _, _], h => absurd h (by simp)
  | [_, _, _, _, _, _, _, _, _, _], h => absurd h (by simp)
  | [_, _, _, _, _, _, _, _, _, _, _], h => absurd h (by simp)

theorem split4 : ∀ (zs : List Int), 4 ≤ zs.length → ∃ p0 p1 p2 p3 r, zs = [p0, p1, p2, p3] ++ r
  | p0 :: p1 :: p2 :: p3 :: r, _ => ⟨p0, p1, p2, p3, r, rfl⟩
  | [], h => absurd h (by simp)
  | [_], h => absurd h (by simp)
  | [_, _], h => absurd h (by simp)
  | [_, _, _], h => absurd h (by simp)

def spOf (h8 : Int) : List Int → Int
  | p0 :: p1 :: _ => if h8 = 0 then p0 * 256 + p1 else 0
  | _ => 0
def dpOf (h8 : Int) : List Int → Int
  | _ :: _ :: p2 :: p3 :: _ => if h8 = 0 then p2 * 256 + p3 else 0
  | _ => 0
def dtOf (h8 : Int) (r : List Int) : List Int := if h8 = 0 then r.drop 4 else r
/-- What Unpack answers: the error's number. -/
def upC : List Int → Int
  | h0 :: h1 :: h2 :: h3 :: h4 :: h5 :: h6 :: h7 :: h8 :: h9 :: h10 :: h11 :: r =>
    if h0 ≠ 16 ∧ h0 ≠ 17 then 3 else if (r.length : Int) ≠ h9 ∨ (h8 = 0 ∧ r.length < 4) then 4
    else if h10 * 256 + h11 ≠ csum h0 h1 h2 h3 h4 h5 h6 h7 h8 h9 then 5
    else if wfB h8 (h0 == 17) (spOf h8 r) (dpOf h8 r) (dtOf h8 r).length = false then 6 else 0
  | _ => 2
/-- And the packet, where it is OK: its numbers and its data. -/
structure Up where
  src : Int
  dst : Int
  proto : Int
  id : Int
  off : Int
  more : Bool
  sport : Int
  dport : Int
  data : List Int
def upP : List Int → Up
  | h0 :: h1 :: h2 :: h3 :: h4 :: h5 :: h6 :: h7 :: h8 :: _ :: _ :: _ :: r => ⟨h2 * 256 + h3, h4 * 256 + h5, h1, h6 * 256 + h7, h8, h0 == 17, spOf h8 r, dpOf h8 r, dtOf h8 r⟩
  | _ => ⟨0, 0, 0, 0, 0, false, 0, 0, []⟩

def UpPost (w : World) (zs : List Int) (e : Ending) (w' : World) : Prop :=
  Below w.heap.size w w' ∧
    ((upC zs = 0 ∧ ∃ v, e = .returned (.tuple #[.agg #[.int .u16 (upP zs).src, .int .u16 (upP zs).dst, .int .u8 (upP zs).proto, .int .u16 (upP zs).id, .int .u8 (upP zs).off, .bool (upP zs).more, .int .u16 (upP zs).sport, .int .u16 (upP zs).dport, v], .int .i64 0])
        ∧ w'.ownsRow w.heap.size 5 1 v (upP zs).data.length ((upP zs).data.map (Value.int .u8)))
      ∨ (upC zs ≠ 0 ∧ e = .returned (.tuple #[.agg #[.int .u16 0, .int .u16 0, .int .u8 0, .int .u16 0, .int .u8 0, .bool false, .int .u16 0, .int .u16 0, .slice none 0 0], .int .i64 (upC zs)])))

theorem up_err {w : World} {zs : List Int} {args : Array Value} {c : Int} (hc : upC zs = c) (h0 : c ≠ 0)
    (h : Calls Tryz.prog 64 args w fun e w' => e = .returned (.tuple #[.agg #[.int .u16 0, .int .u16 0, .int .u8 0, .int .u16 0, .int .u8 0, .bool false, .int .u16 0, .int .u16 0, .slice none 0 0], .int .i64 c]) ∧ Below w.heap.size w w') :
    Calls Tryz.prog 64 args w (UpPost w zs) := by
  refine h.mono ?_
  rintro e w' ⟨rfl, hb⟩
  exact ⟨hb, .inr ⟨by rw [hc]; exact h0, by rw [hc]⟩⟩

theorem unpack_any (ao : Option Addr) (n cap : Nat) (zs : List Int) (w : World) (hl : zs.length = n) (hcap : n ≤ cap) (hm : cap ≤ maxLen) (hd : Has w ao zs) (hz : ∀ z ∈ zs, 0 ≤ z ∧ z ≤ 255) :
    Calls Tryz.prog 64 #[.slice ao n cap] w (UpPost w zs) := by
  by_cases h12 : n < 12
  · refine up_err (c := 2) ?_ (by decide) (unpack_short ao n cap w h12)
    unfold upC
    split
    · simp at hl; omega
    · rfl
  obtain ⟨h0, h1, h2, h3, h4, h5, h6, h7, h8, h9, h10, h11, r, rfl⟩ := split12 zs (by omega)
  obtain ⟨b, o, rfl, _, _⟩ := hd.2 (by simp)
  simp only [List.length_append, List.length_cons, List.length_nil] at hl
  have b0 := hz h0 (by simp)
  have b1 := hz h1 (by simp)
  have b2 := hz h2 (by simp)
  have b3 := hz h3 (by simp)
  have b4 := hz h4 (by simp)
  have b5 := hz h5 (by simp)
  have b6 := hz h6 (by simp)
  have b7 := hz h7 (by simp)
  have b8 := hz h8 (by simp)
  have b9 := hz h9 (by simp)
  have b10 := hz h10 (by simp)
  have b11 := hz h11 (by simp)
  have hr : ∀ z ∈ r, 0 ≤ z ∧ z ≤ 255 := fun z hz' => hz z (by simp [hz'])
  clear hz
  by_cases hmk : h0 ≠ 16 ∧ h0 ≠ 17
  · exact up_err (c := 3) (by simp [upC, hmk]) (by decide) (unpack_mark b o n cap h0 h1 h2 h3 h4 h5 h6 h7 h8 h9 h10 h11 r w hl hd (by simpa using hmk.1) (by simpa using hmk.2))
  have hmk' : h0 = 16 ∨ h0 = 17 := by omega
  have hU : upC ([h0, h1, h2, h3, h4, h5, h6, h7, h8, h9, h10, h11] ++ r) = if (r.length : Int) ≠ h9 ∨ (h8 = 0 ∧ r.length < 4) then 4
    else if h10 * 256 + h11 ≠ csum h0 h1 h2 h3 h4 h5 h6 h7 h8 h9 then 5
    else if wfB h8 (h0 == 17) (spOf h8 r) (dpOf h8 r) (dtOf h8 r).length = false then 6 else 0 := by
    show (if _ then _ else _) = _
    rw [if_neg hmk]
    rfl
  clear hmk
  by_cases h9r : (r.length : Int) ≠ h9
  · have hc : upC ([h0, h1, h2, h3, h4, h5, h6, h7, h8, h9, h10, h11] ++ r) = 4 := by rw [hU, if_pos (.inl h9r)]
    refine up_err hc (by decide) ?_
    by_cases hre : r = []
    · subst hre
      obtain rfl : n = 12 := by simpa using hl.symm
      by_cases hce : cap = 12
      · subst hce
        rcases hmk' with rfl | rfl
        · exact unpack_lenAe_16 b o h1 h2 h3 h4 h5 h6 h7 h8 h9 h10 h11 w hd b9 (by simpa using h9r)
        · exact unpack_lenAe_17 b o h1 h2 h3 h4 h5 h6 h7 h8 h9 h10 h11 w hd b9 (by simpa using h9r)
      · rcases hmk' with rfl | rfl
        · exact unpack_lenA_16 b o 12 cap h1 h2 h3 h4 h5 h6 h7 h8 h9 h10 h11 [] w rfl (by omega) hm hd b9 (by simpa using h9r)
        · exact unpack_lenA_17 b o 12 cap h1 h2 h3 h4 h5 h6 h7 h8 h9 h10 h11 [] w rfl (by omega) hm hd b9 (by simpa using h9r)
    · have : 0 < r.length := by cases r with | nil => exact absurd rfl hre | cons _ _ => simp
      rcases hmk' with rfl | rfl
      · exact unpack_lenA_16 b o n cap h1 h2 h3 h4 h5 h6 h7 h8 h9 h10 h11 r w hl (by omega) hm hd b9 (by simpa using h9r)
      · exact unpack_lenA_17 b o n cap h1 h2 h3 h4 h5 h6 h7 h8 h9 h10 h11 r w hl (by omega) hm hd b9 (by simpa using h9r)
  have h9r' : (r.length : Int) = h9 := by omega
  clear h9r
  by_cases h8r : h8 = 0 ∧ r.length < 4
  · have hc : upC ([h0, h1, h2, h3, h4, h5, h6, h7, h8, h9, h10, h11] ++ r) = 4 := by rw [hU, if_pos (.inr h8r)]
    refine up_err hc (by decide) ?_
    obtain ⟨rfl, hr4⟩ := h8r
    by_cases hce : cap = 12
    · subst hce
      obtain rfl : r = [] := List.eq_nil_of_length_eq_zero (by omega)
      obtain rfl : n = 12 := by simpa using hl.symm
      have h90 : h9 = 0 := by simpa using h9r'.symm
      rcases hmk' with rfl | rfl
      · exact unpack_lenBe_16 b o h1 h2 h3 h4 h5 h6 h7 h9 h10 h11 w hd b9 h90
      · exact unpack_lenBe_17 b o h1 h2 h3 h4 h5 h6 h7 h9 h10 h11 w hd b9 h90
    · rcases hmk' with rfl | rfl
      · exact unpack_lenB_16 b o n cap h1 h2 h3 h4 h5 h6 h7 h9 h10 h11 r w hl (by omega) hm hd b9 h9r' hr4
      · exact unpack_lenB_17 b o n cap h1 h2 h3 h4 h5 h6 h7 h9 h10 h11 r w hl (by omega) hm hd b9 h9r' hr4
  rw [if_neg (by intro h; rcases h with h | h; exact h h9r'; exact h8r h)] at hU
  by_cases hsum : h10 * 256 + h11 ≠ csum h0 h1 h2 h3 h4 h5 h6 h7 h8 h9
  · have hc : upC ([h0, h1, h2, h3, h4, h5, h6, h7, h8, h9, h10, h11] ++ r) = 5 := by rw [hU, if_pos hsum]
    refine up_err hc (by decide) ?_
    by_cases h80 : h8 = 0
    · subst h80
      have hr4 : 4 ≤ r.length := by omega
      rcases hmk' with rfl | rfl
      · exact unpack_sum_16p b o n cap h1 h2 h3 h4 h5 h6 h7 h9 h10 h11 r w hl (by omega) hm hd b1 b2 b3 b4 b5 b6 b7 b9 b10 b11 h9r' hr4 (by simpa using hsum)
      · exact unpack_sum_17p b o n cap h1 h2 h3 h4 h5 h6 h7 h9 h10 h11 r w hl (by omega) hm hd b1 b2 b3 b4 b5 b6 b7 b9 b10 b11 h9r' hr4 (by simpa using hsum)
    · have h80' : (h8 == 0) = false := by simpa using h80
      by_cases hce : cap = 12
      · subst hce
        obtain rfl : r = [] := List.eq_nil_of_length_eq_zero (by omega)
        obtain rfl : n = 12 := by simpa using hl.symm
        have h90 : h9 = 0 := by simpa using h9r'.symm
        rcases hmk' with rfl | rfl
        · exact unpack_sume_16q b o h1 h2 h3 h4 h5 h6 h7 h8 h9 h10 h11 w hd b1 b2 b3 b4 b5 b6 b7 b8 b9 b10 b11 h80' h90 (by simpa using hsum)
        · exact unpack_sume_17q b o h1 h2 h3 h4 h5 h6 h7 h8 h9 h10 h11 w hd b1 b2 b3 b4 b5 b6 b7 b8 b9 b10 b11 h80' h90 (by simpa using hsum)
      · rcases hmk' with rfl | rfl
        · exact unpack_sum_16q b o n cap h1 h2 h3 h4 h5 h6 h7 h8 h9 h10 h11 r w hl (by omega) hm hd b1 b2 b3 b4 b5 b6 b7 b8 b9 b10 b11 h80' h9r' (by simpa using hsum)
        · exact unpack_sum_17q b o n cap h1 h2 h3 h4 h5 h6 h7 h8 h9 h10 h11 r w hl (by omega) hm hd b1 b2 b3 b4 b5 b6 b7 b8 b9 b10 b11 h80' h9r' (by simpa using hsum)
  rw [if_neg hsum] at hU
  have hsum' : h10 * 256 + h11 = csum h0 h1 h2 h3 h4 h5 h6 h7 h8 h9 := by simpa using hsum
  clear hsum
  have fin : ∀ (m : Bool) (sp dp : Int) (d : List Int), (h0 == 17) = m → spOf h8 r = sp → dpOf h8 r = dp → dtOf h8 r = d → ∀ (e : Ending) (w' : World), Below w.heap.size w w' ∧
      ((wfB h8 m sp dp d.length = true ∧ ∃ v, e = .returned (.tuple #[.agg #[.int .u16 (h2 * 256 + h3), .int .u16 (h4 * 256 + h5), .int .u8 h1, .int .u16 (h6 * 256 + h7), .int .u8 h8, .bool m, .int .u16 sp, .int .u16 dp, v], .int .i64 0]) ∧ w'.ownsRow w.heap.size 5 1 v d.length (d.map (Value.int .u8)))
      ∨ (wfB h8 m sp dp d.length = false ∧ e = .returned (.tuple #[.agg #[.int .u16 0, .int .u16 0, .int .u8 0, .int .u16 0, .int .u8 0, .bool false, .int .u16 0, .int .u16 0, .slice none 0 0], .int .i64 6]))) → UpPost w ([h0, h1, h2, h3, h4, h5, h6, h7, h8, h9, h10, h11] ++ r) e w' := by
    rintro m sp dp d rfl rfl rfl rfl e w' ⟨hb, h⟩
    refine ⟨hb, ?_⟩
    rcases h with ⟨hw, v, he, ho⟩ | ⟨hw, he⟩
    · exact .inl ⟨by rw [hU, if_neg (by rw [hw]; decide)], v, he, ho⟩
    · have hc : upC ([h0, h1, h2, h3, h4, h5, h6, h7, h8, h9, h10, h11] ++ r) = 6 := by rw [hU, if_pos hw]
      exact .inr ⟨by rw [hc]; decide, by rw [hc]; exact he⟩
  clear hU
  by_cases h80 : h8 = 0
  · subst h80
    obtain ⟨p0, p1, p2, p3, d, rfl⟩ := split4 r (by omega)
    have bp0 := hr p0 (by simp)
    have bp1 := hr p1 (by simp)
    have bp2 := hr p2 (by simp)
    have bp3 := hr p3 (by simp)
    simp only [List.length_append, List.length_cons, List.length_nil] at hl h9r'
    by_cases hde : d = []
    · subst hde
      obtain rfl : n = 16 := by simpa using hl.symm
      have h94 : h9 = 4 := by simpa using h9r'.symm
      by_cases hce : cap = 16
      · subst hce
        rcases hmk' with rfl | rfl
        · exact (unpack_16p_e0 b o h1 h2 h3 h4 h5 h6 h7 h9 h10 h11 p0 p1 p2 p3 w hd b1 b2 b3 b4 b5 b6 b7 b9 b10 b11 bp0 bp1 bp2 bp3 h94 hsum').mono (fin false _ _ [] rfl rfl rfl rfl)
        · exact (unpack_17p_e0 b o h1 h2 h3 h4 h5 h6 h7 h9 h10 h11 p0 p1 p2 p3 w hd b1 b2 b3 b4 b5 b6 b7 b9 b10 b11 bp0 bp1 bp2 bp3 h94 hsum').mono (fin true _ _ [] rfl rfl rfl rfl)
      · rcases hmk' with rfl | rfl
        · exact (unpack_16p_e1 b o cap h1 h2 h3 h4 h5 h6 h7 h9 h10 h11 p0 p1 p2 p3 w (by omega) hm hd b1 b2 b3 b4 b5 b6 b7 b9 b10 b11 bp0 bp1 bp2 bp3 h94 hsum').mono (fin false _ _ [] rfl rfl rfl rfl)
        · exact (unpack_17p_e1 b o cap h1 h2 h3 h4 h5 h6 h7 h9 h10 h11 p0 p1 p2 p3 w (by omega) hm hd b1 b2 b3 b4 b5 b6 b7 b9 b10 b11 bp0 bp1 bp2 bp3 h94 hsum').mono (fin true _ _ [] rfl rfl rfl rfl)
    · have hd0 : 0 < d.length := by cases d with | nil => exact absurd rfl hde | cons _ _ => simp
      rcases hmk' with rfl | rfl
      · exact (unpack_16p_ne b o n cap h1 h2 h3 h4 h5 h6 h7 h9 h10 h11 p0 p1 p2 p3 d w (by omega) hd0 hcap hm hd b1 b2 b3 b4 b5 b6 b7 b9 b10 b11 bp0 bp1 bp2 bp3 (by omega) hsum').mono (fin false _ _ d rfl rfl rfl rfl)
      · exact (unpack_17p_ne b o n cap h1 h2 h3 h4 h5 h6 h7 h9 h10 h11 p0 p1 p2 p3 d w (by omega) hd0 hcap hm hd b1 b2 b3 b4 b5 b6 b7 b9 b10 b11 bp0 bp1 bp2 bp3 (by omega) hsum').mono (fin true _ _ d rfl rfl rfl rfl)
  · have h80' : (h8 == 0) = false := by simpa using h80
    have esp : spOf h8 r = 0 := by unfold spOf; split; exact if_neg h80; rfl
    have edp : dpOf h8 r = 0 := by unfold dpOf; split; exact if_neg h80; rfl
    have edt : dtOf h8 r = r := if_neg h80
    by_cases hde : r = []
    · subst hde
      obtain rfl : n = 12 := by simpa using hl.symm
      have h94 : h9 = 0 := by simpa using h9r'.symm
      by_cases hce : cap = 12
      · subst hce
        rcases hmk' with rfl | rfl
        · exact (unpack_16q_e0 b o h1 h2 h3 h4 h5 h6 h7 h8 h9 h10 h11 w hd b1 b2 b3 b4 b5 b6 b7 b8 b9 b10 b11 h80' h94 hsum').mono (fin false _ _ [] rfl esp edp edt)
        · exact (unpack_17q_e0 b o h1 h2 h3 h4 h5 h6 h7 h8 h9 h10 h11 w hd b1 b2 b3 b4 b5 b6 b7 b8 b9 b10 b11 h80' h94 hsum').mono (fin true _ _ [] rfl esp edp edt)
      · rcases hmk' with rfl | rfl
        · exact (unpack_16q_e1 b o cap h1 h2 h3 h4 h5 h6 h7 h8 h9 h10 h11 w (by omega) hm hd b1 b2 b3 b4 b5 b6 b7 b8 b9 b10 b11 h80' h94 hsum').mono (fin false _ _ [] rfl esp edp edt)
        · exact (unpack_17q_e1 b o cap h1 h2 h3 h4 h5 h6 h7 h8 h9 h10 h11 w (by omega) hm hd b1 b2 b3 b4 b5 b6 b7 b8 b9 b10 b11 h80' h94 hsum').mono (fin true _ _ [] rfl esp edp edt)
    · have hd0 : 0 < r.length := by cases r with | nil => exact absurd rfl hde | cons _ _ => simp
      rcases hmk' with rfl | rfl
      · exact (unpack_16q_ne b o n cap h1 h2 h3 h4 h5 h6 h7 h8 h9 h10 h11 r w (by omega) hd0 hcap hm hd b1 b2 b3 b4 b5 b6 b7 b8 b9 b10 b11 h80' (by omega) hsum').mono (fin false _ _ r rfl esp edp edt)
      · exact (unpack_17q_ne b o n cap h1 h2 h3 h4 h5 h6 h7 h8 h9 h10 h11 r w (by omega) hd0 hcap hm hd b1 b2 b3 b4 b5 b6 b7 b8 b9 b10 b11 h80' (by omega) hsum').mono (fin true _ _ r rfl esp edp edt)

end Go.Proofs.YtajphdppmdoalaaGreat

namespace Go.Proofs.YtajphdppmdoalaaGreat
open Go.RowKit

end Go.Proofs.YtajphdppmdoalaaGreat

namespace Go.Proofs.YtajphdppmdoalaaGreat
open Go.RowKit

end Go.Proofs.YtajphdppmdoalaaGreat

namespace Go.Proofs.YtajphdppmdoalaaGreat
open Go.RowKit

end Go.Proofs.YtajphdppmdoalaaGreat

namespace Go.Proofs.YtajphdppmdoalaaGreat
open Go.RowKit

theorem owns_has {w : World} {base g n cv : Nat} {zs : List Int} (h : w.ownsRow base 5 1 (.slice (some ⟨g, 0, none⟩) n cv) n (zs.map (Value.int .u8))) : Has w (some ⟨g, 0, none⟩) zs ∧ zs.length = n ∧ n ≤ cv ∧ cv ≤ maxLen := by
  obtain ⟨hl, h2⟩ := h
  have hl' : zs.length = n := by simpa using hl
  rcases h2 with ⟨h, _⟩ | ⟨g', cap', cur, he, hb, hh, h3, h4, h5, h6⟩
  · simp at h
  · simp only [Value.slice.injEq, Option.some.injEq, Addr.mk.injEq] at he
    obtain ⟨⟨rfl, _, _⟩, _, rfl⟩ := he
    refine ⟨⟨by simp, fun _ => ⟨g, 0, rfl, lt_of_block hh, fun j hj => ?_⟩⟩, hl', h3, h4⟩
    rw [arr_cell hh, Nat.zero_add]
    have h7 : (zs.map (Value.int .u8))[j]? = cur[j]? := by
      rw [← h6]
      rw [List.getElem?_take_of_lt (by omega), Array.getElem?_toList]
    rw [← h7, List.getElem?_map, List.getElem?_eq_getElem hj, List.getD_eq_getElem?_getD, List.getElem?_eq_getElem hj]
    rfl
end Go.Proofs.YtajphdppmdoalaaGreat

namespace Go.Proofs.YtajphdppmdoalaaGreat
open Go.RowKit

theorem own_build (w : World) (e : TypeId) (xs : List Value) (hm : xs.length ≤ maxLen) : (w.alloc (.cells xs.toArray e)).ownsRow w.heap.size e 1 (.slice (some ⟨w.heap.size, 0, none⟩) xs.length xs.length) xs.length xs := by
  refine ⟨by simp, .inr ⟨w.heap.size, xs.length, xs.toArray, rfl, Nat.le_refl _, heap_alloc_new _ _, Nat.le_refl _, hm, by simp, by simp⟩⟩

/-- What the caller writes at place i of the k-th list. -/
def sgn (k : Int) (i : Nat) : Int := if i % 2 = 0 then k % 256 else k / 256 % 256
def sg (k : Int) : Nat → List Int
  | 0 => []
  | m + 1 => sg k m ++ [sgn k m]
theorem sg_length (k : Int) (m : Nat) : (sg k m).length = m := by
  induction m with
  | zero => rfl
  | succ m ih => simp [sg, ih]
theorem sg_get (k : Int) (m j : Nat) (h : j < m) : (sg k m)[j]? = some (sgn k j) := by
  induction m with
  | zero => omega
  | succ m ih =>
    rw [sg]
    by_cases hj : j < m
    · rw [List.getElem?_append_left (by rw [sg_length]; exact hj)]; exact ih hj
    · obtain rfl : j = m := by omega
      rw [List.getElem?_append_right (by rw [sg_length]; omega), sg_length]; simp
set_option maxHeartbeats 400000 in
theorem sign_any (k : Int) (i : Nat) (w : World) (hk0 : 0 ≤ k) (hk : k ≤ 9223372036854775807) (hi : i ≤ 9223372036854775807) :
    Calls Tryz.prog 23 #[.int .i64 k, .int .i64 i] w fun e w' => e = .returned (.int .u8 (sgn k i)) ∧ w' = w := by
  by_cases h : i % 2 = 0
  · have h1 : ((i : Int) % 2 == 0) = true := by simp; omega
    go_enter Tryz.func23, Tryz.ntmps23
    go_wp2
    go_ret
    exact ⟨ret_int (by simp [sgn, h]), rfl⟩
  · have h1 : ((i : Int) % 2 == 0) = false := by simp; omega
    go_enter Tryz.func23, Tryz.ntmps23
    go_wp2
    go_ret
    exact ⟨ret_int (by simp [sgn, h]), rfl⟩

end Go.Proofs.YtajphdppmdoalaaGreat

namespace Go.Proofs.YtajphdppmdoalaaGreat
open Go.RowKit
set_option linter.unusedVariables false

set_option maxRecDepth 100000 in
set_option maxHeartbeats 800000 in
theorem ends_any (src dst proto id off : Int) (more : Bool) (sport dport : Int) (ao : Option Addr) (n cap : Nat) (w : World) (hsrc0 : 0 ≤ src) (hsrc : src ≤ 65535) (hdst0 : 0 ≤ dst) (hdst : dst ≤ 65535) (hproto0 : 0 ≤ proto) (hproto : proto ≤ 255) (hid0 : 0 ≤ id) (hid : id ≤ 65535) (hoff0 : 0 ≤ off) (hoff : off ≤ 255) :
    Calls Tryz.prog 99 #[.agg #[.int .u16 src, .int .u16 dst, .int .u8 proto, .int .u16 id, .int .u8 off, .bool more, .int .u16 sport, .int .u16 dport, .slice ao n cap]] w fun e w' => ∃ g, e = .returned (.slice (some ⟨g, 0, none⟩) 5 5) ∧ w'.ownsRow w.heap.size 5 1 (.slice (some ⟨g, 0, none⟩) 5 5) 5 ([src / 256, src % 256, dst / 256, dst % 256, proto].map (Value.int .u8)) ∧ Below w.heap.size w w' := by
  go_enter Tryz.func99, Tryz.ntmps99
  go_wp2
  go_ret
  refine ⟨w.heap.size + 1, rfl, ?_, ?_⟩
  · have h := own_build (w.alloc (.cells #[.int .u16 src, .int .u16 dst, .int .u8 proto, .int .u16 id, .int .u8 off, .bool more, .int .u16 sport, .int .u16 dport, .slice ao n cap] 40)) 5 ([src / 256, src % 256, dst / 256, dst % 256, proto].map (Value.int .u8)) (by show 5 ≤ maxLen; decide)
    rw [World.size_alloc] at h
    exact ownsRow_base h (by omega)
  · exact ((Below.refl _ _).alloc (Nat.le_refl _) _).alloc (by simp) _

set_option maxRecDepth 100000 in
set_option maxHeartbeats 1600000 in
theorem flow_any (src dst proto id off : Int) (more : Bool) (sport dport : Int) (ao : Option Addr) (n cap : Nat) (w : World) (hsrc0 : 0 ≤ src) (hsrc : src ≤ 65535) (hdst0 : 0 ≤ dst) (hdst : dst ≤ 65535) (hproto0 : 0 ≤ proto) (hproto : proto ≤ 255) (hid0 : 0 ≤ id) (hid : id ≤ 65535) (hoff0 : 0 ≤ off) (hoff : off ≤ 255) (hsport0 : 0 ≤ sport) (hsport : sport ≤ 65535) (hdport0 : 0 ≤ dport) (hdport : dport ≤ 65535) :
    Calls Tryz.prog 78 #[.agg #[.int .u16 src, .int .u16 dst, .int .u8 proto, .int .u16 id, .int .u8 off, .bool more, .int .u16 sport, .int .u16 dport, .slice ao n cap]] w fun e w' => e = .returned (.int .u32 (flH src dst proto sport dport)) ∧ Below w.heap.size w w' := by
  obtain ⟨i0, hi, hz0, hz1, hz2⟩ := info_parts info_u8
  have HN := hide (fun w => ends_any src dst proto id off more sport dport ao n cap w hsrc0 hsrc hdst0 hdst hproto0 hproto hid0 hid hoff0 hoff)
  unfold flH
  go_enter Tryz.func78, Tryz.ntmps78
  go_wp2_with fail
  refine (HN.out _).mono ?_
  rintro e w1 ⟨g, rfl, ho, hb⟩
  have HT := hide ho
  have HB : Hid (Below (w.heap.size + 1) (w.alloc (.cells #[.int .u16 src, .int .u16 dst, .int .u8 proto, .int .u16 id, .int .u8 off, .bool more, .int .u16 sport, .int .u16 dport, .slice ao n cap] 40)) w1) := hb.mono (by simp)
  have hz : w.heap.size + 1 ≤ w1.heap.size := by have := hb.size; simpa using this
  have cc := box_cell HB.out
  clear ho hb HN
  rw [World.size_alloc] at HT
  go_wp2_with (at_builtin; refine wpList_append_own _ rfl (.tmp 6) (.tmp 21) 38 rfl (w.heap.size + 1) 5 i0 (.int .u8 0) 1 1 Tryz.underlying38 hi hz0 hz1 hz2 rfl (by decide) _ _ _ rfl (HT.out.alloc _) ⟨w1.heap.size, 0, none⟩ 4 4 [.int .u8 (sport / 256), .int .u8 (sport % 256), .int .u8 (dport / 256), .int .u8 (dport % 256)] rfl rfl (cells_new _ _ _) (by simp [Value.oneCell']) (by unfold maxLen; omega) (by omega) (by simp; try omega) ?_)
  intro v2 w2 hown hgrow hiff
  have HT2 : Hid (w2.ownsRow (w.heap.size + 1) 5 1 v2 9 ([src / 256, src % 256, dst / 256, dst % 256, proto, sport / 256, sport % 256, dport / 256, dport % 256].map (Value.int .u8))) := by show World.ownsRow _ _ _ _ _ _ _; simpa using hown
  have HB2 : Hid (Below (w.heap.size + 1) (w.alloc (.cells #[.int .u16 src, .int .u16 dst, .int .u8 proto, .int .u16 id, .int .u8 off, .bool more, .int .u16 sport, .int .u16 dport, .slice ao n cap] 40)) w2) := (HB.out.alloc hz _).grown hgrow (by simp; try omega) (fun q hq => (HT.out.lt q hq).1)
  clear hown hgrow hiff cc HB hz HT
  obtain ⟨g2, q2, rfl⟩ := (own_shape HT2.out).resolve_left (by rintro rfl; rcases HT2.out.2 with ⟨_, h⟩ | ⟨_, _, _, h, _⟩; omega; simp at h)
  have HH := hide (hash_any (some ⟨g2, 0, none⟩) 9 q2 [src / 256, src % 256, dst / 256, dst % 256, proto, sport / 256, sport % 256, dport / 256, dport % 256] w2 rfl (owns_has HT2.out).1 (by omega) (by intro z hz; simp at hz; omega))
  have HBe := hide (below_old HB2.out)
  clear HT2 HB2
  generalize hE : hsh [src / 256, src % 256, dst / 256, dst % 256, proto, sport / 256, sport % 256, dport / 256, dport % 256] = hh
  rw [hE] at HH
  have HE := hide hE
  clear hE
  go_wp2_with fail
  refine HH.out.mono ?_
  rintro e w9 ⟨rfl, m9, rfl⟩
  clear HH
  go_wp2
  go_ret
  exact ⟨ret_int HE.out.symm, below_drew HBe.out _⟩

set_option maxRecDepth 100000 in
set_option maxHeartbeats 1600000 in
theorem datagram_any (src dst proto id off : Int) (more : Bool) (sport dport : Int) (ao : Option Addr) (n cap : Nat) (w : World) (hsrc0 : 0 ≤ src) (hsrc : src ≤ 65535) (hdst0 : 0 ≤ dst) (hdst : dst ≤ 65535) (hproto0 : 0 ≤ proto) (hproto : proto ≤ 255) (hid0 : 0 ≤ id) (hid : id ≤ 65535) (hoff0 : 0 ≤ off) (hoff : off ≤ 255) (hsport0 : 0 ≤ sport) (hsport : sport ≤ 65535) (hdport0 : 0 ≤ dport) (hdport : dport ≤ 65535) :
    Calls Tryz.prog 79 #[.agg #[.int .u16 src, .int .u16 dst, .int .u8 proto, .int .u16 id, .int .u8 off, .bool more, .int .u16 sport, .int .u16 dport, .slice ao n cap]] w fun e w' => e = .returned (.int .u32 (dgH src dst proto id)) ∧ Below w.heap.size w w' := by
  obtain ⟨i0, hi, hz0, hz1, hz2⟩ := info_parts info_u8
  have HN := hide (fun w => ends_any src dst proto id off more sport dport ao n cap w hsrc0 hsrc hdst0 hdst hproto0 hproto hid0 hid hoff0 hoff)
  unfold dgH
  go_enter Tryz.func79, Tryz.ntmps79
  go_wp2_with fail
  refine (HN.out _).mono ?_
  rintro e w1 ⟨g, rfl, ho, hb⟩
  have HT := hide ho
  have HB : Hid (Below (w.heap.size + 1) (w.alloc (.cells #[.int .u16 src, .int .u16 dst, .int .u8 proto, .int .u16 id, .int .u8 off, .bool more, .int .u16 sport, .int .u16 dport, .slice ao n cap] 40)) w1) := hb.mono (by simp)
  have hz : w.heap.size + 1 ≤ w1.heap.size := by have := hb.size; simpa using this
  have cc := box_cell HB.out
  clear ho hb HN
  rw [World.size_alloc] at HT
  go_wp2_with (at_builtin; refine wpList_append_own _ rfl (.tmp 6) (.tmp 14) 38 rfl (w.heap.size + 1) 5 i0 (.int .u8 0) 1 1 Tryz.underlying38 hi hz0 hz1 hz2 rfl (by decide) _ _ _ rfl (HT.out.alloc _) ⟨w1.heap.size, 0, none⟩ 2 2 [.int .u8 (id / 256), .int .u8 (id % 256)] rfl rfl (cells_new _ _ _) (by simp [Value.oneCell']) (by unfold maxLen; omega) (by omega) (by simp; try omega) ?_)
  intro v2 w2 hown hgrow hiff
  have HT2 : Hid (w2.ownsRow (w.heap.size + 1) 5 1 v2 7 ([src / 256, src % 256, dst / 256, dst % 256, proto, id / 256, id % 256].map (Value.int .u8))) := by show World.ownsRow _ _ _ _ _ _ _; simpa using hown
  have HB2 : Hid (Below (w.heap.size + 1) (w.alloc (.cells #[.int .u16 src, .int .u16 dst, .int .u8 proto, .int .u16 id, .int .u8 off, .bool more, .int .u16 sport, .int .u16 dport, .slice ao n cap] 40)) w2) := (HB.out.alloc hz _).grown hgrow (by simp; try omega) (fun q hq => (HT.out.lt q hq).1)
  clear hown hgrow hiff cc HB hz HT
  obtain ⟨g2, q2, rfl⟩ := (own_shape HT2.out).resolve_left (by rintro rfl; rcases HT2.out.2 with ⟨_, h⟩ | ⟨_, _, _, h, _⟩; omega; simp at h)
  have HH := hide (hash_any (some ⟨g2, 0, none⟩) 7 q2 [src / 256, src % 256, dst / 256, dst % 256, proto, id / 256, id % 256] w2 rfl (owns_has HT2.out).1 (by omega) (by intro z hz; simp at hz; omega))
  have HBe := hide (below_old HB2.out)
  clear HT2 HB2
  generalize hE : hsh [src / 256, src % 256, dst / 256, dst % 256, proto, id / 256, id % 256] = hh
  rw [hE] at HH
  have HE := hide hE
  clear hE
  go_wp2_with fail
  refine HH.out.mono ?_
  rintro e w9 ⟨rfl, m9, rfl⟩
  clear HH
  go_wp2
  go_ret
  exact ⟨ret_int HE.out.symm, below_drew HBe.out _⟩

end Go.Proofs.YtajphdppmdoalaaGreat
