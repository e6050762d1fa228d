import Derived.Test.YtajphdppmdoalaaGreatZ2
import Derived.Test.YtajphdppmdoalaaGreatZ3
namespace Go.Proofs.YtajphdppmdoalaaGreat
open Go.RowKit
set_option linter.unusedVariables false

theorem rup_err {w : World} {zs : List Int} {args : Array Value} {c : Int} (hc : upC zs = c) (h0 : c ≠ 0)
    (h : Calls Tryz.prog 32 args w fun e w' => e = .returned (.tuple #[.agg #[.int .u16 0, .int .u16 0, .int .u8 0, .int .u16 0, .int .u8 0, .bool false, .int .u16 0, .int .u16 0, .slice none 0 0], .int .i64 c]) ∧ Below w.heap.size w w') :
    Calls Tryz.prog 32 args w (UpPost w zs) := by
  refine h.mono ?_
  rintro e w' ⟨rfl, hb⟩
  exact ⟨hb, .inr ⟨by rw [hc]; exact h0, by rw [hc]⟩⟩

theorem runpack_any (ao : Option Addr) (n cap : Nat) (zs : List Int) (w : World) (hl : zs.length = n) (hcap : n ≤ cap) (hm : cap ≤ maxLen) (hd : Has w ao zs) (hz : ∀ z ∈ zs, 0 ≤ z ∧ z ≤ 255) :
    Calls Tryz.prog 32 #[.slice ao n cap] w (UpPost w zs) := by
  by_cases h12 : n < 12
  · refine rup_err (c := 2) ?_ (by decide) (runpack_short ao n cap w h12)
    unfold upC
    split
    · simp at hl; omega
    · rfl
  have hnm : n ≤ 9223372036854775807 := by unfold maxLen at hm; omega
  obtain ⟨h0, h1, h2, h3, h4, h5, h6, h7, h8, h9, h10, h11, r, rfl⟩ := split12 zs (by omega)
  obtain ⟨b, o, rfl, _, _⟩ := hd.2 (by simp)
  simp only [List.length_append, List.length_cons, List.length_nil] at hl
  have b0 := hz h0 (by simp)
  have b1 := hz h1 (by simp)
  have b2 := hz h2 (by simp)
  have b3 := hz h3 (by simp)
  have b4 := hz h4 (by simp)
  have b5 := hz h5 (by simp)
  have b6 := hz h6 (by simp)
  have b7 := hz h7 (by simp)
  have b8 := hz h8 (by simp)
  have b9 := hz h9 (by simp)
  have b10 := hz h10 (by simp)
  have b11 := hz h11 (by simp)
  have hr : ∀ z ∈ r, 0 ≤ z ∧ z ≤ 255 := fun z hz' => hz z (by simp [hz'])
  clear hz
  by_cases hmk : h0 ≠ 16 ∧ h0 ≠ 17
  · exact rup_err (c := 3) (by simp [upC, hmk]) (by decide) (runpack_mark b o n cap h0 h1 h2 h3 h4 h5 h6 h7 h8 h9 h10 h11 r w (by omega) hnm hd b0 b1 b2 b3 b4 b5 b6 b7 b8 b9 b10 b11 (by simp; omega))
  have q0 : (h0 / 2 != 8) = false := by simp; omega
  have hU : upC ([h0, h1, h2, h3, h4, h5, h6, h7, h8, h9, h10, h11] ++ r) = if (r.length : Int) ≠ h9 ∨ (h8 = 0 ∧ r.length < 4) then 4
    else if h10 * 256 + h11 ≠ csum h0 h1 h2 h3 h4 h5 h6 h7 h8 h9 then 5
    else if wfB h8 (h0 == 17) (spOf h8 r) (dpOf h8 r) (dtOf h8 r).length = false then 6 else 0 := by
    show (if _ then _ else _) = _
    rw [if_neg hmk]
    rfl
  clear hmk
  by_cases h9r : (r.length : Int) ≠ h9
  · exact rup_err (c := 4) (by rw [hU, if_pos (.inl h9r)]) (by decide) (runpack_lenA b o n cap h0 h1 h2 h3 h4 h5 h6 h7 h8 h9 h10 h11 r w (by omega) hnm hd b0 b1 b2 b3 b4 b5 b6 b7 b8 b9 b10 b11 q0 (by simp; omega))
  have h9r' : (r.length : Int) = h9 := by omega
  clear h9r
  have q9 : (h9 + 12 != (n : Int)) = false := by simp; omega
  by_cases h8r : h8 = 0 ∧ r.length < 4
  · obtain ⟨rfl, hr4⟩ := h8r
    exact rup_err (c := 4) (by rw [hU, if_pos (.inr ⟨rfl, hr4⟩)]) (by decide) (runpack_lenB b o n cap h0 h1 h2 h3 h4 h5 h6 h7 h9 h10 h11 r w (by omega) hnm hd b0 b1 b2 b3 b4 b5 b6 b7 b9 b10 b11 q0 q9 (by omega))
  rw [if_neg (by intro h; rcases h with h | h; exact h h9r'; exact h8r h)] at hU
  by_cases hsum : h10 * 256 + h11 ≠ csum h0 h1 h2 h3 h4 h5 h6 h7 h8 h9
  · refine rup_err (c := 5) (by rw [hU, if_pos hsum]) (by decide) ?_
    by_cases h80 : h8 = 0
    · subst h80
      exact runpack_sumP b o n cap h0 h1 h2 h3 h4 h5 h6 h7 h9 h10 h11 r w (by omega) hnm hd b0 b1 b2 b3 b4 b5 b6 b7 b9 b10 b11 q0 q9 (by omega) (by simpa using Ne.symm hsum)
    · exact runpack_sumQ b o n cap h0 h1 h2 h3 h4 h5 h6 h7 h8 h9 h10 h11 r w (by omega) hnm hd b0 b1 b2 b3 b4 b5 b6 b7 b8 b9 b10 b11 q0 q9 (by simpa using h80) (by simpa using Ne.symm hsum)
  rw [if_neg hsum] at hU
  have hsum' : h10 * 256 + h11 = csum h0 h1 h2 h3 h4 h5 h6 h7 h8 h9 := by simpa using hsum
  clear hsum
  have fin : ∀ (sp dp : Int) (d : List Int), spOf h8 r = sp → dpOf h8 r = dp → dtOf h8 r = d → ∀ (e : Ending) (w' : World), Below w.heap.size w w' ∧
      ((wfB h8 (h0 == 17) sp dp d.length = true ∧ ∃ v, e = .returned (.tuple #[.agg #[.int .u16 (h2 * 256 + h3), .int .u16 (h4 * 256 + h5), .int .u8 h1, .int .u16 (h6 * 256 + h7), .int .u8 h8, .bool (h0 == 17), .int .u16 sp, .int .u16 dp, v], .int .i64 0]) ∧ w'.ownsRow w.heap.size 5 1 v d.length (d.map (Value.int .u8)))
      ∨ (wfB h8 (h0 == 17) sp dp d.length = false ∧ e = .returned (.tuple #[.agg #[.int .u16 0, .int .u16 0, .int .u8 0, .int .u16 0, .int .u8 0, .bool false, .int .u16 0, .int .u16 0, .slice none 0 0], .int .i64 6]))) → UpPost w ([h0, h1, h2, h3, h4, h5, h6, h7, h8, h9, h10, h11] ++ r) e w' := by
    rintro sp dp d rfl rfl rfl e w' ⟨hb, h⟩
    refine ⟨hb, ?_⟩
    rcases h with ⟨hw, v, he, ho⟩ | ⟨hw, he⟩
    · exact .inl ⟨by rw [hU, if_neg (by rw [hw]; decide)], v, he, ho⟩
    · have hc : upC ([h0, h1, h2, h3, h4, h5, h6, h7, h8, h9, h10, h11] ++ r) = 6 := by rw [hU, if_pos hw]
      exact .inr ⟨by rw [hc]; decide, by rw [hc]; exact he⟩
  clear hU
  by_cases h80 : h8 = 0
  · subst h80
    obtain ⟨p0, p1, p2, p3, d, rfl⟩ := split4 r (by omega)
    have bp0 := hr p0 (by simp)
    have bp1 := hr p1 (by simp)
    have bp2 := hr p2 (by simp)
    have bp3 := hr p3 (by simp)
    simp only [List.length_append, List.length_cons, List.length_nil] at hl h9r'
    by_cases hde : d = []
    · subst hde
      obtain rfl : n = 16 := by simpa using hl.symm
      have h94 : h9 = 4 := by simpa using h9r'.symm
      by_cases hce : cap = 16
      · subst hce
        exact (runpack_p_e0 b o h0 h1 h2 h3 h4 h5 h6 h7 h9 h10 h11 p0 p1 p2 p3 w hd b0 b1 b2 b3 b4 b5 b6 b7 b9 b10 b11 bp0 bp1 bp2 bp3 q0 h94 hsum').mono (fin _ _ [] rfl rfl rfl)
      · exact (runpack_p_e1 b o cap h0 h1 h2 h3 h4 h5 h6 h7 h9 h10 h11 p0 p1 p2 p3 w (by omega) hm hd b0 b1 b2 b3 b4 b5 b6 b7 b9 b10 b11 bp0 bp1 bp2 bp3 q0 h94 hsum').mono (fin _ _ [] rfl rfl rfl)
    · have hd0 : 0 < d.length := by cases d with | nil => exact absurd rfl hde | cons _ _ => simp
      exact (runpack_p_ne b o n cap h0 h1 h2 h3 h4 h5 h6 h7 h9 h10 h11 p0 p1 p2 p3 d w (by omega) hd0 hcap hm hd b0 b1 b2 b3 b4 b5 b6 b7 b9 b10 b11 bp0 bp1 bp2 bp3 q0 (by omega) hsum').mono (fin _ _ d rfl rfl rfl)
  · have h80' : (h8 == 0) = false := by simpa using h80
    have esp : spOf h8 r = 0 := by unfold spOf; split; exact if_neg h80; rfl
    have edp : dpOf h8 r = 0 := by unfold dpOf; split; exact if_neg h80; rfl
    have edt : dtOf h8 r = r := if_neg h80
    by_cases hde : r = []
    · subst hde
      obtain rfl : n = 12 := by simpa using hl.symm
      have h94 : h9 = 0 := by simpa using h9r'.symm
      by_cases hce : cap = 12
      · subst hce
        exact (runpack_q_e0 b o h0 h1 h2 h3 h4 h5 h6 h7 h8 h9 h10 h11 w hd b0 b1 b2 b3 b4 b5 b6 b7 b8 b9 b10 b11 h80' q0 h94 hsum').mono (fin _ _ [] esp edp edt)
      · exact (runpack_q_e1 b o cap h0 h1 h2 h3 h4 h5 h6 h7 h8 h9 h10 h11 w (by omega) hm hd b0 b1 b2 b3 b4 b5 b6 b7 b8 b9 b10 b11 h80' q0 h94 hsum').mono (fin _ _ [] esp edp edt)
    · have hd0 : 0 < r.length := by cases r with | nil => exact absurd rfl hde | cons _ _ => simp
      exact (runpack_q_ne b o n cap h0 h1 h2 h3 h4 h5 h6 h7 h8 h9 h10 h11 r w (by omega) hd0 hcap hm hd b0 b1 b2 b3 b4 b5 b6 b7 b8 b9 b10 b11 h80' q0 (by omega) hsum').mono (fin _ _ r esp edp edt)

end Go.Proofs.YtajphdppmdoalaaGreat
