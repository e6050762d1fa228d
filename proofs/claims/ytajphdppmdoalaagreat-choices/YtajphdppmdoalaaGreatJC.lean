import Derived.Test.YtajphdppmdoalaaGreatJ7
namespace Go.Proofs.YtajphdppmdoalaaGreat
open Go.RowKit
set_option linter.unusedVariables false

theorem alB_tE (zs : List Int) (hz : ∀ z ∈ zs, 0 ≤ z ∧ z ≤ 255) : (alB zs = false → tE zs = 1) ∧ (alB zs = true → nd zs = true ∧ zs.length ≤ 6 ∧ tE zs = if zs.length = 0 then 7 else 0) := by
  have h := asc_len zs hz
  constructor
  · intro ha
    rw [tE, if_pos]
    by_cases h6 : 6 < zs.length
    · exact .inl h6
    · right
      rw [alB, Bool.and_eq_false_iff] at ha
      rcases ha with ha | ha
      · have hne : ¬ (asc zs).length = zs.length := fun he => by rw [h.2.1 he] at ha; cases ha
        omega
      · exfalso
        have := of_decide_eq_false ha
        omega
  · intro ha
    rw [alB, Bool.and_eq_true] at ha
    have h6 := of_decide_eq_true ha.2
    have he := h.2.2 ha.1
    exact ⟨ha.1, h6, by rw [tE, if_neg (by omega)]⟩

def TabOk (w w' : World) (zs : List Int) (v : Value) : Prop := w'.ownsRow w.heap.size 5 1 v 31 ((tbl zs).map (Value.int .u8)) ∧ v ≠ .slice none 0 0
theorem slots_tab (ao : Option Addr) (n cap : Nat) (zs : List Int) (w : World) (hl : zs.length = n) (hd : Has w ao zs) (h1 : 1 ≤ n) (h6 : n ≤ 6) (hz : ∀ z ∈ zs, 0 ≤ z ∧ z ≤ 255) (hnd : nd zs = true) (m : Nat) :
    Calls Tryz.prog 70 #[.slice ao n cap] (w.drewN m) fun e w' => ∃ v, e = .returned v ∧ TabOk w w' zs v ∧ Below w.heap.size w w' := by
  refine (slots_ok ao n cap zs (w.drewN m) hl (hd.below (below_drew (Below.refl _ _) m)) h1 h6 hz hnd).mono ?_
  rintro e w' ⟨v, a, b, c, d⟩
  exact ⟨v, a, ⟨b, c⟩, (below_drew (Below.refl _ _) m).trans d⟩

set_option maxRecDepth 100000 in
set_option maxHeartbeats 800000 in
theorem rtable_any (ao : Option Addr) (n cap : Nat) (zs : List Int) (w : World) (hl : zs.length = n) (hd : Has w ao zs) (hn : n ≤ 9223372036854775807) (hz : ∀ z ∈ zs, 0 ≤ z ∧ z ≤ 255) :
    Calls Tryz.prog 37 #[.slice ao n cap] w (TabPost w zs) := by
  obtain ⟨hf, ht⟩ := alB_tE zs hz
  have HAL := hide (allowed_any ao n cap zs w hl hd hn)
  cases hal : alB zs with
  | false =>
    rw [hal] at HAL
    have HT := hide (hf hal)
    clear hf ht hal hd hl
    go_enter Tryz.func37, Tryz.ntmps37
    go_wp2_with fail
    refine HAL.out.mono ?_
    rintro e w1 ⟨rfl, m, rfl⟩
    clear HAL
    go_wp2
    go_ret2
    exact ⟨below_drew (Below.refl _ _) m, .inr ⟨by rw [HT.out]; decide, HT.out ▸ rfl⟩⟩
  | true =>
    rw [hal] at HAL
    obtain ⟨hnd, h6, hte⟩ := ht hal
    rw [hl] at h6 hte
    have HTE := hide hte
    have HD := hide hd
    clear hf ht hal hte
    by_cases h0 : n = 0
    · subst h0
      clear hnd hl
      go_enter Tryz.func37, Tryz.ntmps37
      go_wp2_with fail
      refine HAL.out.mono ?_
      rintro e w1 ⟨rfl, m, rfl⟩
      clear HAL
      go_wp2
      go_ret2
      have e7 : tE zs = 7 := HTE.out
      exact ⟨below_drew (Below.refl _ _) m, .inr ⟨by rw [e7]; decide, e7 ▸ rfl⟩⟩
    · have e0 : tE zs = 0 := by rw [HTE.out, if_neg h0]
      have HE := hide e0
      have HS := hide (slots_tab ao n cap zs w hl hd (by omega) h6 hz hnd)
      have hn0 : ((n : Int) == 0) = false := by rw [beq_eq_false_iff_ne]; omega
      clear hnd hl e0 HTE hd hz
      go_enter Tryz.func37, Tryz.ntmps37
      go_wp2_with fail
      refine HAL.out.mono ?_
      rintro e w1 ⟨rfl, m, rfl⟩
      clear HAL
      go_wp2_with fail
      refine (HS.out m).mono ?_
      rintro e w2 ⟨v, rfl, hk, hb⟩
      have HK := hide hk
      have HB := hide hb
      clear HS hk hb
      go_wp2
      go_ret2
      exact ⟨HB.out, .inl ⟨HE.out, v, rfl, HK.out.1, HK.out.2⟩⟩


end Go.Proofs.YtajphdppmdoalaaGreat
