import Derived.Test.YtajphdppmdoalaaJ1
namespace Go.Proofs.Ytajphdppmdoalaa

theorem nd_snoc (l : List Int) (x : Int) (h : nd l = true) (hx : x ∉ l) : nd (l ++ [x]) = true := by
  induction l with
  | nil => rfl
  | cons a l ih =>
    rw [nd, Bool.and_eq_true] at h
    rw [List.cons_append, nd, Bool.and_eq_true]
    refine ⟨?_, ih h.2 (fun hm => hx (List.mem_cons_of_mem _ hm))⟩
    rw [Bool.not_eq_true', Bool.eq_false_iff]
    intro hc
    rw [List.contains_iff_mem, List.mem_append] at hc
    rcases hc with hc | hc
    · have : l.contains a = false := by simpa using h.1
      rw [List.contains_iff_mem.2 hc] at this
      simp at this
    · simp at hc
      exact hx (by simp [hc])
theorem asc_nd (zs : List Int) (k : Nat) : nd (ascK zs k) = true := by
  induction k with
  | zero => rfl
  | succ k ih =>
    rw [ascK]
    split
    · refine nd_snoc _ _ ih ?_
      intro h
      have := (ascK_mem zs k k).1 h
      omega
    · exact ih
theorem ascK_prefix (zs : List Int) (k : Nat) : ∀ d, ∃ r, ascK zs (k + d) = ascK zs k ++ r := by
  intro d
  induction d with
  | zero => exact ⟨[], by simp⟩
  | succ d ih =>
    obtain ⟨r, hr⟩ := ih
    rw [← Nat.add_assoc, ascK]
    split
    · exact ⟨r ++ [((k + d : Nat) : Int)], by rw [hr, List.append_assoc]⟩
    · exact ⟨r, hr⟩
/-- The place of a backend in the order is how many lie below it. -/
theorem asc_at (zs : List Int) (b : Nat) (hb : b < 256) (hm : (b : Int) ∈ zs) : (ascK zs b).length < (asc zs).length ∧ (asc zs).getD (ascK zs b).length 0 = b := by
  obtain ⟨r, hr⟩ := ascK_prefix zs (b + 1) (255 - b)
  rw [show b + 1 + (255 - b) = 256 from by omega, show ascK zs (b + 1) = ascK zs b ++ [(b : Int)] from by rw [ascK, if_pos (List.contains_iff_mem.2 hm)]] at hr
  unfold asc
  rw [hr]
  constructor
  · simp only [List.length_append, List.length_singleton]; omega
  · rw [List.append_assoc, List.getD_eq_getElem?_getD, List.getElem?_append_right (Nat.le_refl _)]
    simp
/-- How many of the first m rounds are those of the place p. -/
def tn (k p : Nat) : Nat → Nat
  | 0 => 0
  | m + 1 => tn k p m + if m % k = p then 1 else 0
def shr (k p : Nat) : Nat := 31 / k + if p < 31 % k then 1 else 0
theorem tn_shr : ∀ k : Fin 7, ∀ p : Fin 7, p.val < k.val → tn k.val p.val 31 = shr k.val p.val := by decide
def allK (k : Nat) : Nat → Nat
  | 0 => 0
  | p + 1 => allK k p + shr k p
theorem allK_all : ∀ k : Fin 7, 1 ≤ k.val → allK k.val k.val = 31 := by decide
theorem allK_le (k : Nat) : ∀ p, p ≤ 6 → 1 ≤ k → allK k p ≤ 32 * p := by
  intro p
  induction p with
  | zero => intro _ _; simp [allK]
  | succ p ih =>
    intro h hk
    have := ih (by omega) hk
    have h31 : 31 / k ≤ 31 := Nat.div_le_self _ _
    rw [allK, shr]
    split <;> omega
theorem turns_tn (ord : List Int) (b : Int) (p : Nat) (hn : nd ord = true) (hp : p < ord.length) (hb : ord.getD p 0 = b) (m : Nat) : turns ord b m = tn ord.length p m := by
  induction m with
  | zero => rfl
  | succ m ih =>
    rw [turns, tn, ih]
    congr 1
    have hlt : m % ord.length < ord.length := Nat.mod_lt _ (by omega)
    by_cases h : m % ord.length = p
    · rw [if_pos h, if_pos (by rw [h, hb])]
    · rw [if_neg h, if_neg]
      intro he
      rw [← hb] at he
      rcases Nat.lt_or_gt_of_ne h with h1 | h1
      · exact (nd_get ord).1 hn p _ h1 hp he.symm
      · exact (nd_get ord).1 hn _ p h1 hlt he
theorem turns_none (ord : List Int) (b : Int) (h0 : 0 < ord.length) (hb : b ∉ ord) (m : Nat) : turns ord b m = 0 := by
  induction m with
  | zero => rfl
  | succ m ih =>
    rw [turns, ih, if_neg]
    intro he
    apply hb
    have hlt : m % ord.length < ord.length := Nat.mod_lt _ h0
    rw [← he, List.getD_eq_getElem?_getD, List.getElem?_eq_getElem hlt]
    exact List.getElem_mem _
/-- How many slots a number has. -/
theorem share (zs : List Int) (b : Nat) (hb : b < 256) (h1 : 1 ≤ (asc zs).length) (h6 : (asc zs).length ≤ 6) :
    (tbl zs).count (b : Int) = if (b : Int) ∈ zs then shr (asc zs).length (ascK zs b).length else 0 := by
  rw [tbl_count]
  by_cases hm : (b : Int) ∈ zs
  · rw [if_pos hm]
    obtain ⟨h2, h3⟩ := asc_at zs b hb hm
    rw [turns_tn (asc zs) b _ (asc_nd zs 256) h2 h3]
    exact tn_shr ⟨_, by omega⟩ ⟨(ascK zs b).length, by omega⟩ h2
  · rw [if_neg hm]
    refine turns_none _ _ (by omega) ?_ _
    intro h
    exact hm ((ascK_mem zs 256 b).1 h).1
/-- The share before. -/
def lastK (k p : Nat) : Nat := if p = 0 then 31 else shr k (p - 1)
theorem shr_last (k p : Nat) (hk : 1 ≤ k) : shr k p ≤ lastK k p := by
  unfold lastK shr
  have : 31 / k ≤ 31 := Nat.div_le_self _ _
  by_cases hp : p = 0
  · subst hp
    rw [if_pos rfl]
    by_cases h : 0 < 31 % k
    · rw [if_pos h]
      have hk2 : k ≠ 1 := by rintro rfl; simp at h
      have : 31 / k ≤ 31 / 2 := Nat.div_le_div_left (by omega) (by omega)
      omega
    · rw [if_neg h]; omega
  · rw [if_neg hp]
    by_cases h : p < 31 % k
    · rw [if_pos h, if_pos (by omega)]; exact Nat.le_refl _
    · rw [if_neg h]; omega
theorem shr_bd (k p : Nat) (hk : 1 ≤ k) (h6 : k ≤ 6) : 31 / k ≤ shr k p ∧ shr k p ≤ 31 / k + 1 ∧ 1 ≤ shr k p ∧ shr k p ≤ 32 := by
  unfold shr
  have : 31 / k ≤ 31 := Nat.div_le_self _ _
  have h5 : 31 / 6 ≤ 31 / k := Nat.div_le_div_left h6 (by omega)
  split <;> omega

/-- Backends out of a first one and a step. -/
def smL (f s : Int) : Nat → List Int
  | 0 => []
  | n + 1 => smL f s n ++ [(f + n * s) % 256]
theorem smL_len (f s : Int) (n : Nat) : (smL f s n).length = n := by
  induction n with
  | zero => rfl
  | succ n ih => rw [smL, List.length_append, ih]; rfl
theorem smL_get (f s : Int) (n i : Nat) (h : i < n) : (smL f s n).getD i 0 = (f + i * s) % 256 := by
  induction n with
  | zero => omega
  | succ n ih =>
    rw [smL, List.getD_eq_getElem?_getD]
    by_cases hi : i < n
    · rw [List.getElem?_append_left (by rw [smL_len]; exact hi), ← List.getD_eq_getElem?_getD, ih hi]
    · obtain rfl : i = n := by omega
      rw [List.getElem?_append_right (by rw [smL_len]; omega), smL_len]
      simp
theorem smL_nd (f s : Int) (n : Nat) (h1 : 1 ≤ s) (h2 : s ≤ 39) (hn : n ≤ 6) : nd (smL f s n) = true := by
  rw [nd_get]
  intro i k hk hi
  rw [smL_len] at hi
  rw [smL_get _ _ _ _ hi, smL_get _ _ _ _ (by omega)]
  have hi6 : i < 6 := by omega
  have hk6 : k < 6 := by omega
  have hd : (i : Int) * s - k * s = (i - k : Nat) * s := by rw [Int.ofNat_sub (by omega), Int.sub_mul]
  generalize (i : Int) * s = a at *
  generalize (k : Int) * s = c at *
  have hd2 : ∃ d : Nat, d = i - k ∧ 1 ≤ d ∧ d ≤ 5 := ⟨i - k, rfl, by omega, by omega⟩
  obtain ⟨d, hde, hd0, hd5⟩ := hd2
  rw [← hde] at hd
  rcases (show d = 1 ∨ d = 2 ∨ d = 3 ∨ d = 4 ∨ d = 5 by omega) with h | h | h | h | h <;> subst h <;> omega
theorem smL_bd (f s : Int) (n : Nat) : ∀ z ∈ smL f s n, 0 ≤ z ∧ z ≤ 255 := by
  induction n with
  | zero => intro z hz; simp [smL] at hz
  | succ n ih =>
    intro z hz
    rw [smL, List.mem_append] at hz
    rcases hz with hz | hz
    · exact ih z hz
    · simp at hz; subst hz; omega
/-- The same, told from another place on and backward. -/
def bkL (l : List Int) (t : Nat) : Nat → List Int
  | 0 => []
  | i + 1 => bkL l t i ++ [l.getD ((l.length - 1 - i + t) % l.length) 0]
theorem bkL_len (l : List Int) (t i : Nat) : (bkL l t i).length = i := by
  induction i with
  | zero => rfl
  | succ n ih => rw [bkL, List.length_append, ih]; rfl
theorem bkL_mem (l : List Int) (t : Nat) (b : Int) : ∀ i, b ∈ bkL l t i ↔ ∃ j, j < i ∧ b = l.getD ((l.length - 1 - j + t) % l.length) 0 := by
  intro i
  induction i with
  | zero => simp [bkL]
  | succ n ih =>
    rw [bkL, List.mem_append, ih, List.mem_singleton]
    constructor
    · rintro (⟨j, h1, h2⟩ | h)
      · exact ⟨j, by omega, h2⟩
      · exact ⟨n, by omega, h⟩
    · rintro ⟨j, h1, h2⟩
      by_cases hj : j < n
      · exact .inl ⟨j, hj, h2⟩
      · obtain rfl : j = n := by omega
        exact .inr h2
theorem mem_getD (l : List Int) (b : Int) : b ∈ l ↔ ∃ j, j < l.length ∧ b = l.getD j 0 := by
  constructor
  · intro h
    obtain ⟨i, hi, he⟩ := List.getElem_of_mem h
    exact ⟨i, hi, by rw [List.getD_eq_getElem?_getD, List.getElem?_eq_getElem hi, he]; rfl⟩
  · rintro ⟨j, hj, rfl⟩
    rw [List.getD_eq_getElem?_getD, List.getElem?_eq_getElem hj]
    exact List.getElem_mem _
theorem bkL_same (l : List Int) (t : Nat) (h6 : l.length ≤ 6) (ht : t < l.length) (b : Int) : b ∈ l ↔ b ∈ bkL l t l.length := by
  rw [bkL_mem, mem_getD]
  constructor
  · rintro ⟨j, hj, rfl⟩
    refine ⟨(l.length - 1 + t - j) % l.length, Nat.mod_lt _ (by omega), ?_⟩
    congr 1
    generalize l.length = n at *
    rcases (show n = 1 ∨ n = 2 ∨ n = 3 ∨ n = 4 ∨ n = 5 ∨ n = 6 by omega) with h | h | h | h | h | h <;> subst h <;> omega
  · rintro ⟨j, hj, rfl⟩
    exact ⟨_, Nat.mod_lt _ (by omega), rfl⟩
theorem bkL_asc (l : List Int) (t : Nat) (h6 : l.length ≤ 6) (ht : t < l.length) : asc (bkL l t l.length) = asc l := ascK_cong _ _ (fun b => (bkL_same l t h6 ht b).symm) _
theorem bkL_bd (l : List Int) (t : Nat) (h6 : l.length ≤ 6) (ht : t < l.length) (hb : ∀ z ∈ l, 0 ≤ z ∧ z ≤ 255) : ∀ z ∈ bkL l t l.length, 0 ≤ z ∧ z ≤ 255 := fun z hz => hb z ((bkL_same l t h6 ht z).2 hz)
theorem tbl_cong (l m : List Int) (h : asc l = asc m) : tbl l = tbl m := by rw [tbl, tbl, h]
/-- The numbers of a table are those of the list. -/
theorem count_take (l : List Int) (i : Nat) (b : Int) (hi : i < l.length) : (l.take (i + 1)).count b = (l.take i).count b + if l.getD i 0 = b then 1 else 0 := count_take_succ l i b hi

end Go.Proofs.Ytajphdppmdoalaa
