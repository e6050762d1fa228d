import Derived.Test.YtajphdppmdoalaaGreatT1
namespace Go.Proofs.YtajphdppmdoalaaGreat
open Go.RowKit

theorem own_tag {w : World} {base g k : Nat} {e : TypeId} {u : Value} {ys : List Value} (h : w.ownsRow base e 1 u k ys) (hg : u.ownBlock = some g) : ∃ cur, w.heap[g]? = some (.cells cur e (0, 0)) ∧ base ≤ g := by
  rcases h.2 with ⟨rfl, _⟩ | ⟨g', cap, cur, rfl, hb, hh, _⟩
  · simp [Value.ownBlock] at hg
  · simp only [Value.ownBlock, Option.some.injEq] at hg
    subst hg
    exact ⟨cur, hh, hb⟩
theorem own_apart {w : World} {base base' k n : Nat} {e e' : TypeId} {u v : Value} {ys xs : List Value} (h : w.ownsRow base e 1 u k ys) (h' : w.ownsRow base' e' 1 v n xs) (hne : e ≠ e') : u.ownBlock = none ∨ u.ownBlock ≠ v.ownBlock := by
  cases hu : u.ownBlock with
  | none => exact .inl rfl
  | some g =>
    refine .inr ?_
    intro hv
    obtain ⟨c1, h1, _⟩ := own_tag h hu
    obtain ⟨c2, h2, _⟩ := own_tag h' hv.symm
    rw [h1] at h2
    simp at h2
    exact hne h2.2
theorem own_stay {w w' : World} {base base' k n : Nat} {e e' : TypeId} {u v : Value} {ys xs : List Value} (h : w.ownsRow base e 1 u k ys) (h' : w.ownsRow base' e' 1 v n xs) (hne : e ≠ e') (hg : w.grownBy w' v.ownBlock) : w'.ownsRow base e 1 u k ys :=
  h.kept hg (own_apart h h' hne)
theorem own_set {w : World} {base k wb j : Nat} {e t : TypeId} {u : Value} {ys : List Value} {cs : Array Value} (h : w.ownsRow base e 1 u k ys) (hw : w.heap[wb]? = some (.cells cs t (0, 0))) (hne : e ≠ t) (x : Value) : (w.setCell ⟨wb, j, none⟩ x).ownsRow base e 1 u k ys := by
  refine ownsRow_setCell_other h ?_ x
  intro hu
  obtain ⟨c1, h1, _⟩ := own_tag h hu
  rw [h1] at hw
  simp at hw
  exact hne hw.2
theorem own_below {w w' : World} {B base k : Nat} {e : TypeId} {u : Value} {ys : List Value} (h : w.ownsRow base e 1 u k ys) (hu : ∀ g, u.ownBlock = some g → g < B) (hb : Below B w w') : w'.ownsRow base e 1 u k ys := by
  refine ⟨h.1, ?_⟩
  rcases h.2 with h2 | ⟨g, cap, cur, hv, hbs, hh, r⟩
  · exact .inl h2
  · exact .inr ⟨g, cap, cur, hv, hbs, (hb.block g (hu g (by rw [hv]; rfl))).trans hh, r⟩
theorem own_lt {w : World} {base k : Nat} {e : TypeId} {u : Value} {ys : List Value} (h : w.ownsRow base e 1 u k ys) : ∀ g, u.ownBlock = some g → g < w.heap.size := fun g hg => (h.lt g hg).2
theorem blk_stay {w w' : World} {wb base n : Nat} {e t : TypeId} {v : Value} {xs : List Value} {cs : Array Value} (hw : w.heap[wb]? = some (.cells cs t (0, 0))) (h' : w.ownsRow base e 1 v n xs) (hne : e ≠ t) (hg : w.grownBy w' v.ownBlock) : w'.heap[wb]? = some (.cells cs t (0, 0)) := by
  refine (hg.block wb (lt_of_block hw) ?_).trans hw
  intro hv
  obtain ⟨c1, h1, _⟩ := own_tag h' hv.symm
  rw [h1] at hw
  simp at hw
  exact hne hw.2

/-- One list of the book: its bytes are what the caller wrote. -/
def Page (w : World) (lo hi : Nat) (u : Value) (k : Int) : Prop := ∃ m, w.ownsRow lo 5 1 u m ((sg k m).map (Value.int .u8)) ∧ ∀ g, u.ownBlock = some g → g < hi
/-- The book (of lists of bytes alone), behind c lists. -/
def Bk (w : World) (lo hi wb : Nat) (vl : Value) (c : Nat) : Prop :=
  ∃ (vbs vkb : Value) (BS : List Value) (KS : List Int), lo ≤ wb ∧ wb < hi ∧ hi ≤ w.heap.size ∧
    w.heap[wb]? = some (.cells #[vl, vbs, .slice none 0 0, .slice none 0 0, vkb, .slice none 0 0, .slice none 0 0, .int .i64 c] 34 (0, 0)) ∧
    BS.length = 4 * c ∧ KS.length = 4 * c ∧ w.ownsRow lo 38 1 vbs (4 * c) BS ∧ w.ownsRow lo 3 1 vkb (4 * c) (KS.map (Value.int .i64)) ∧
    (∀ g, vbs.ownBlock = some g → g < hi) ∧ (∀ g, vkb.ownBlock = some g → g < hi) ∧
    ∀ (i : Nat) (u : Value) (k : Int), BS[i]? = some u → KS[i]? = some k → 0 ≤ k ∧ k ≤ c ∧ Page w lo hi u k

theorem Page.below {w w' : World} {lo hi : Nat} {u : Value} {k : Int} (h : Page w lo hi u k) (hb : Below hi w w') : Page w' lo hi u k := by
  obtain ⟨m, h1, h2⟩ := h
  exact ⟨m, own_below h1 h2 hb, h2⟩
theorem Page.mono {w : World} {lo hi hi' : Nat} {u : Value} {k : Int} (h : Page w lo hi u k) (hh : hi ≤ hi') : Page w lo hi' u k := by
  obtain ⟨m, h1, h2⟩ := h
  exact ⟨m, h1, fun g hg => Nat.lt_of_lt_of_le (h2 g hg) hh⟩
theorem Bk.below {w w' : World} {lo hi wb : Nat} {vl : Value} {c : Nat} (h : Bk w lo hi wb vl c) (hb : Below hi w w') : Bk w' lo hi wb vl c := by
  obtain ⟨vbs, vkb, BS, KS, h1, h2, h3, h4, h5, h6, h7, h8, h9, h10, h11⟩ := h
  exact ⟨vbs, vkb, BS, KS, h1, h2, Nat.le_trans h3 hb.size, (hb.block wb h2).trans h4, h5, h6, own_below h7 h9 hb, own_below h8 h10 hb, h9, h10, fun i u k hu hk => ⟨(h11 i u k hu hk).1, (h11 i u k hu hk).2.1, (h11 i u k hu hk).2.2.below hb⟩⟩
theorem Bk.mono {w : World} {lo hi hi' wb : Nat} {vl : Value} {c : Nat} (h : Bk w lo hi wb vl c) (hh : hi ≤ hi') (hs : hi' ≤ w.heap.size) : Bk w lo hi' wb vl c := by
  obtain ⟨vbs, vkb, BS, KS, h1, h2, h3, h4, h5, h6, h7, h8, h9, h10, h11⟩ := h
  exact ⟨vbs, vkb, BS, KS, h1, Nat.lt_of_lt_of_le h2 hh, hs, h4, h5, h6, h7, h8, fun g hg => Nat.lt_of_lt_of_le (h9 g hg) hh, fun g hg => Nat.lt_of_lt_of_le (h10 g hg) hh, fun i u k hu hk => ⟨(h11 i u k hu hk).1, (h11 i u k hu hk).2.1, (h11 i u k hu hk).2.2.mono hh⟩⟩

/-- The four lists of one call are laid into the book. -/
theorem bk_done {w4 w5 w7 : World} {lo wb : Nat} {vl vbs vkb v0 v1 v2 v3 : Value} {BS : List Value} {KS : List Int} {c g1 c1 g2 c2 n : Nat} {o1 o2 : Obj} (hlo : lo ≤ wb)
    (hw : w4.heap[wb]? = some (.cells #[vl, vbs, .slice none 0 0, .slice none 0 0, vkb, .slice none 0 0, .slice none 0 0, .int .i64 ((c : Int) + 1)] 34 (0, 0)))
    (hBS : BS.length = 4 * c) (hKS : KS.length = 4 * c) (hb : w4.ownsRow lo 38 1 vbs (4 * c) BS) (hk : w4.ownsRow lo 3 1 vkb (4 * c) (KS.map (Value.int .i64)))
    (hold : ∀ (i : Nat) (u : Value) (k : Int), BS[i]? = some u → KS[i]? = some k → 0 ≤ k ∧ k ≤ c ∧ ∃ m, w4.ownsRow lo 5 1 u m ((sg k m).map (Value.int .u8)))
    (p0 : w4.ownsRow lo 5 1 v0 n ((sg ((c : Int) + 1) n).map (Value.int .u8))) (p1 : w4.ownsRow lo 5 1 v1 (n + 1) ((sg ((c : Int) + 1) (n + 1)).map (Value.int .u8))) (p2 : w4.ownsRow lo 5 1 v2 (n + 2) ((sg ((c : Int) + 1) (n + 2)).map (Value.int .u8))) (p3 : w4.ownsRow lo 5 1 v3 (n + 3) ((sg ((c : Int) + 1) (n + 3)).map (Value.int .u8)))
    (a1 : w5.ownsRow lo 38 1 (.slice (some ⟨g1, 0, none⟩) (4 * c + 4) c1) (4 * c + 4) (BS ++ [v0, v1, v2, v3])) (e1 : (w4.alloc o1).grownBy w5 vbs.ownBlock)
    (a2 : w7.ownsRow lo 3 1 (.slice (some ⟨g2, 0, none⟩) (4 * c + 4) c2) (4 * c + 4) (KS.map (Value.int .i64) ++ [.int .i64 ((c : Int) + 1), .int .i64 ((c : Int) + 1), .int .i64 ((c : Int) + 1), .int .i64 ((c : Int) + 1)]))
    (e2 : ((w5.setCell ⟨wb, 1, none⟩ (.slice (some ⟨g1, 0, none⟩) (4 * c + 4) c1)).alloc o2).grownBy w7 vkb.ownBlock) :
    Bk (w7.setCell ⟨wb, 4, none⟩ (.slice (some ⟨g2, 0, none⟩) (4 * c + 4) c2)) lo (w7.setCell ⟨wb, 4, none⟩ (.slice (some ⟨g2, 0, none⟩) (4 * c + 4) c2)).heap.size wb vl (c + 1) := by
  have hbA := hb.alloc o1
  have hwA : (w4.alloc o1).heap[wb]? = _ := (Below.heap_alloc _ _ _ (lt_of_block hw)).trans hw
  have hw5 := blk_stay hwA hbA (by decide) e1
  have hk5 := own_stay (hk.alloc o1) hbA (by decide) e1
  have hw6 := row_setCell (j := 1) hw5 (.slice (some ⟨g1, 0, none⟩) (4 * c + 4) c1)
  have hk6 := own_set (j := 1) hk5 hw5 (by decide) (.slice (some ⟨g1, 0, none⟩) (4 * c + 4) c1)
  have hb6 := own_set (j := 1) a1 hw5 (by decide) (.slice (some ⟨g1, 0, none⟩) (4 * c + 4) c1)
  have hkA := hk6.alloc o2
  have hw7 := blk_stay ((Below.heap_alloc _ _ _ (lt_of_block hw6)).trans hw6) hkA (by decide) e2
  have hb7 := own_stay (hb6.alloc o2) hkA (by decide) e2
  have hw8 := row_setCell (j := 4) hw7 (.slice (some ⟨g2, 0, none⟩) (4 * c + 4) c2)
  have hb8 := own_set (j := 4) hb7 hw7 (by decide) (.slice (some ⟨g2, 0, none⟩) (4 * c + 4) c2)
  have hk8 := own_set (j := 4) a2 hw7 (by decide) (.slice (some ⟨g2, 0, none⟩) (4 * c + 4) c2)
  have page : ∀ u m k, w4.ownsRow lo 5 1 u m ((sg k m).map (Value.int .u8)) → Page (w7.setCell ⟨wb, 4, none⟩ (.slice (some ⟨g2, 0, none⟩) (4 * c + 4) c2)) lo (w7.setCell ⟨wb, 4, none⟩ (.slice (some ⟨g2, 0, none⟩) (4 * c + 4) c2)).heap.size u k := by
    intro u m k h
    have h5 := own_stay (h.alloc o1) hbA (by decide) e1
    have h6 := own_set (j := 1) h5 hw5 (by decide) (.slice (some ⟨g1, 0, none⟩) (4 * c + 4) c1)
    have h7 := own_stay (h6.alloc o2) hkA (by decide) e2
    have h8 := own_set (j := 4) h7 hw7 (by decide) (.slice (some ⟨g2, 0, none⟩) (4 * c + 4) c2)
    exact ⟨m, h8, own_lt h8⟩
  refine ⟨_, _, BS ++ [v0, v1, v2, v3], KS ++ [(c : Int) + 1, (c : Int) + 1, (c : Int) + 1, (c : Int) + 1], hlo, lt_of_block hw8, Nat.le_refl _, ?_, by simp [hBS]; omega, by simp [hKS]; omega, hb8, ?_, own_lt hb8, own_lt hk8, ?_⟩
  · simpa using hw8
  · simpa [Nat.mul_add] using hk8
  · intro i u k hu hk'
    by_cases hi : i < 4 * c
    · rw [List.getElem?_append_left (by omega)] at hu hk'
      obtain ⟨h1, h2, m, h3⟩ := hold i u k hu hk'
      exact ⟨h1, by omega, page u m k h3⟩
    · rw [List.getElem?_append_right (by omega), hBS] at hu
      rw [List.getElem?_append_right (by omega), hKS] at hk'
      have hd : i - 4 * c < 4 := by
        by_cases h : i - 4 * c < 4
        · exact h
        · rw [List.getElem?_eq_none (by simp; omega)] at hu; simp at hu
      rcases (show i - 4 * c = 0 ∨ i - 4 * c = 1 ∨ i - 4 * c = 2 ∨ i - 4 * c = 3 by omega) with h | h | h | h <;> rw [h] at hu hk' <;> simp at hu hk' <;> subst hu hk'
      · exact ⟨by omega, by omega, page _ _ _ p0⟩
      · exact ⟨by omega, by omega, page _ _ _ p1⟩
      · exact ⟨by omega, by omega, page _ _ _ p2⟩
      · exact ⟨by omega, by omega, page _ _ _ p3⟩

end Go.Proofs.YtajphdppmdoalaaGreat
