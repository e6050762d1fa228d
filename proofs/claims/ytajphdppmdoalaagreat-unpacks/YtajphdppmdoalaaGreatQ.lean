import Derived.Test.YtajphdppmdoalaaGreatM
namespace Go.Proofs.YtajphdppmdoalaaGreat
open Go.RowKit

theorem norm_inj (t t' : Int) (h : 0 < t) (h' : 0 < t') (hd : t - t' < 65535) (hd' : t' - t < 65535) (he : norm t = norm t') : t = t' := by
  unfold norm at he; split at he <;> split at he <;> omega

theorem upC_bad (h0 h1 h2 h3 h4 h5 h6 h7 h8 h9 h10 h11 : Int) (r : List Int) (h : (h0 = 16 ∨ h0 = 17) → (r.length : Int) = h9 → h10 * 256 + h11 ≠ csum h0 h1 h2 h3 h4 h5 h6 h7 h8 h9) :
    upC (h0 :: h1 :: h2 :: h3 :: h4 :: h5 :: h6 :: h7 :: h8 :: h9 :: h10 :: h11 :: r) ≠ 0 := by
  simp only [upC]
  split
  · decide
  · split
    · decide
    · rename_i hm hl
      rw [if_pos (h (by omega) (by omega))]
      decide
theorem upC_len (h0 h1 h2 h3 h4 h5 h6 h7 h8 h9 h10 h11 : Int) (r : List Int) (hm : h0 = 16 ∨ h0 = 17) (hl : (r.length : Int) ≠ h9) :
    upC (h0 :: h1 :: h2 :: h3 :: h4 :: h5 :: h6 :: h7 :: h8 :: h9 :: h10 :: h11 :: r) = 4 := by
  simp only [upC]
  rw [if_neg (by omega), if_pos (.inl hl)]

theorem hd_form (src dst proto id off : Int) (more : Bool) (sport dport : Int) (zs : List Int) : pkL src dst proto id off more sport dport zs = mk more :: proto :: (src / 256) :: (src % 256) :: (dst / 256) :: (dst % 256) :: (id / 256) :: (id % 256) :: off :: (tl off zs.length) :: (cs src dst proto id off more zs.length / 256) :: (cs src dst proto id off more zs.length % 256) :: (ptL off sport dport ++ zs) := by
  simp [pkL, hdL]
theorem tl_len (off sport dport : Int) (zs : List Int) : ((ptL off sport dport ++ zs).length : Int) = tl off zs.length := by
  unfold ptL tl; split <;> simp; omega

/-- A byte less is told, and a byte more. -/
theorem up_less (src dst proto id off : Int) (more : Bool) (sport dport : Int) (zs : List Int) (hz : zs ≠ []) : upC ((pkL src dst proto id off more sport dport zs).take ((pkL src dst proto id off more sport dport zs).length - 1)) = 4 := by
  have hp : 0 < zs.length := by cases zs with | nil => exact absurd rfl hz | cons _ _ => simp
  have h2 := tl_len off sport dport zs
  rw [hd_form]
  obtain ⟨m, hm⟩ : ∃ m, (ptL off sport dport ++ zs).length = m + 1 := ⟨(ptL off sport dport ++ zs).length - 1, by simp at *; omega⟩
  simp only [List.length_cons, hm, Nat.add_sub_cancel, List.take_succ_cons]
  refine upC_len _ _ _ _ _ _ _ _ _ _ _ _ _ (by cases more <;> simp [mk]) ?_
  rw [← h2, List.length_take]
  omega
theorem up_more (src dst proto id off : Int) (more : Bool) (sport dport : Int) (zs : List Int) (x : Int) : upC (pkL src dst proto id off more sport dport zs ++ [x]) = 4 := by
  have h2 := tl_len off sport dport zs
  rw [hd_form]
  simp only [List.cons_append]
  refine upC_len _ _ _ _ _ _ _ _ _ _ _ _ _ (by cases more <;> simp [mk]) ?_
  rw [← h2, List.length_append]
  simp
  omega

/-- A byte of the head that is another is told. -/
theorem up_flip (src dst proto id off : Int) (more : Bool) (sport dport : Int) (zs : List Int) (hsrc0 : 0 ≤ src) (hsrc : src ≤ 65535) (hdst0 : 0 ≤ dst) (hdst : dst ≤ 65535) (hproto0 : 0 ≤ proto) (hproto : proto ≤ 255) (hid0 : 0 ≤ id) (hid : id ≤ 65535) (hoff0 : 0 ≤ off) (hoff : off ≤ 255) (hn : zs.length ≤ 32) (i : Nat) (hi : i < 12) (x : Int) (hx0 : 0 ≤ x) (hx : x ≤ 255) (hne : x ≠ (pkL src dst proto id off more sport dport zs).getD i 0) :
    upC ((pkL src dst proto id off more sport dport zs).set i x) ≠ 0 := by
  have h2 := tl_len off sport dport zs
  have h3 := tl_bd off zs.length
  have h4 := mk_bd more
  rw [hd_form] at hne ⊢
  have hcs := csum_bd (mk more) proto (src / 256) (src % 256) (dst / 256) (dst % 256) (id / 256) (id % 256) off (tl off zs.length) (by omega) (by omega) (by omega) (by omega) (by omega) (by omega) (by omega) (by omega) (by omega) (by omega)
  have hc : cs src dst proto id off more zs.length = csum (mk more) proto (src / 256) (src % 256) (dst / 256) (dst % 256) (id / 256) (id % 256) off (tl off zs.length) := rfl
  rw [hc] at hne ⊢
  generalize hC : csum (mk more) proto (src / 256) (src % 256) (dst / 256) (dst % 256) (id / 256) (id % 256) off (tl off zs.length) = C at *
  generalize mk more = m at *
  generalize tl off zs.length = tt at *
  generalize ptL off sport dport ++ zs = rr at *
  clear hc
  have key : ∀ t, 0 < t → t ≠ tk m proto (src / 256) (src % 256) (dst / 256) (dst % 256) (id / 256) (id % 256) off tt 5 → t - tk m proto (src / 256) (src % 256) (dst / 256) (dst % 256) (id / 256) (id % 256) off tt 5 < 65535 → tk m proto (src / 256) (src % 256) (dst / 256) (dst % 256) (id / 256) (id % 256) off tt 5 - t < 65535 → C / 256 * 256 + C % 256 ≠ 65535 - norm t := by
    intro t ht hne' hd hd' he
    have e1 : norm t = norm (tk m proto (src / 256) (src % 256) (dst / 256) (dst % 256) (id / 256) (id % 256) off tt 5) := by
      unfold csum at hC; omega
    exact hne' (norm_inj t _ ht (by simp only [tk]; omega) hd hd' e1)
  have hcases : i = 0 ∨ i = 1 ∨ i = 2 ∨ i = 3 ∨ i = 4 ∨ i = 5 ∨ i = 6 ∨ i = 7 ∨ i = 8 ∨ i = 9 ∨ i = 10 ∨ i = 11 := by omega
  rcases hcases with rfl | rfl | rfl | rfl | rfl | rfl | rfl | rfl | rfl | rfl | rfl | rfl
  · simp only [List.set_cons_zero]
    simp at hne
    refine upC_bad _ _ _ _ _ _ _ _ _ _ _ _ _ ?_
    intro hmk hlen
    refine key _ ?_ ?_ ?_ ?_ <;> simp only [tk] <;> omega
  · simp only [List.set_cons_succ, List.set_cons_zero]
    simp at hne
    refine upC_bad _ _ _ _ _ _ _ _ _ _ _ _ _ ?_
    intro hmk hlen
    refine key _ ?_ ?_ ?_ ?_ <;> simp only [tk] <;> omega
  · simp only [List.set_cons_succ, List.set_cons_zero]
    simp at hne
    refine upC_bad _ _ _ _ _ _ _ _ _ _ _ _ _ ?_
    intro hmk hlen
    refine key _ ?_ ?_ ?_ ?_ <;> simp only [tk] <;> omega
  · simp only [List.set_cons_succ, List.set_cons_zero]
    simp at hne
    refine upC_bad _ _ _ _ _ _ _ _ _ _ _ _ _ ?_
    intro hmk hlen
    refine key _ ?_ ?_ ?_ ?_ <;> simp only [tk] <;> omega
  · simp only [List.set_cons_succ, List.set_cons_zero]
    simp at hne
    refine upC_bad _ _ _ _ _ _ _ _ _ _ _ _ _ ?_
    intro hmk hlen
    refine key _ ?_ ?_ ?_ ?_ <;> simp only [tk] <;> omega
  · simp only [List.set_cons_succ, List.set_cons_zero]
    simp at hne
    refine upC_bad _ _ _ _ _ _ _ _ _ _ _ _ _ ?_
    intro hmk hlen
    refine key _ ?_ ?_ ?_ ?_ <;> simp only [tk] <;> omega
  · simp only [List.set_cons_succ, List.set_cons_zero]
    simp at hne
    refine upC_bad _ _ _ _ _ _ _ _ _ _ _ _ _ ?_
    intro hmk hlen
    refine key _ ?_ ?_ ?_ ?_ <;> simp only [tk] <;> omega
  · simp only [List.set_cons_succ, List.set_cons_zero]
    simp at hne
    refine upC_bad _ _ _ _ _ _ _ _ _ _ _ _ _ ?_
    intro hmk hlen
    refine key _ ?_ ?_ ?_ ?_ <;> simp only [tk] <;> omega
  · simp only [List.set_cons_succ, List.set_cons_zero]
    simp at hne
    refine upC_bad _ _ _ _ _ _ _ _ _ _ _ _ _ ?_
    intro hmk hlen
    refine key _ ?_ ?_ ?_ ?_ <;> simp only [tk] <;> omega
  · simp only [List.set_cons_succ, List.set_cons_zero]
    simp at hne
    refine upC_bad _ _ _ _ _ _ _ _ _ _ _ _ _ ?_
    intro hmk hlen
    exact absurd (hlen.symm.trans h2) hne
  · simp only [List.set_cons_succ, List.set_cons_zero]
    simp at hne
    refine upC_bad _ _ _ _ _ _ _ _ _ _ _ _ _ ?_
    intro hmk hlen
    rw [hC]
    omega
  · simp only [List.set_cons_succ, List.set_cons_zero]
    simp at hne
    refine upC_bad _ _ _ _ _ _ _ _ _ _ _ _ _ ?_
    intro hmk hlen
    rw [hC]
    omega

end Go.Proofs.YtajphdppmdoalaaGreat
