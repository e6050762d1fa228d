namespace Go.Proofs.YtajphdppmdoalaaGreat

/-- One byte more into a hash. -/
def hshx (h z : Int) : Int := (((h.toNat ^^^ z.toNat : Nat) : Int) * 16777619) % 4294967296
def hsh (zs : List Int) : Int := zs.foldl hshx 2166136261
theorem hshx_bd (h z : Int) : 0 ≤ hshx h z ∧ hshx h z ≤ 4294967295 := by unfold hshx; omega
theorem foldl_bd (zs : List Int) : ∀ h : Int, 0 ≤ h ∧ h ≤ 4294967295 → 0 ≤ zs.foldl hshx h ∧ zs.foldl hshx h ≤ 4294967295 := by
  induction zs with
  | nil => intro h hh; exact hh
  | cons z zs ih => intro h _; exact ih _ (hshx_bd h z)
theorem hsh_bd (zs : List Int) : 0 ≤ hsh zs ∧ hsh zs ≤ 4294967295 := foldl_bd zs _ (by omega)
def hshK (zs : List Int) (k : Nat) : Int := hsh (zs.take k)
theorem hshK_bd (zs : List Int) (k : Nat) : 0 ≤ hshK zs k ∧ hshK zs k ≤ 4294967295 := hsh_bd _
theorem hshK_succ (zs : List Int) (k : Nat) (hk : k < zs.length) : hshK zs (k + 1) = hshx (hshK zs k) (zs.getD k 0) := by
  unfold hshK hsh
  rw [List.take_add_one, List.foldl_append, List.getElem?_eq_getElem hk, List.getD_eq_getElem?_getD, List.getElem?_eq_getElem hk]
  rfl
theorem hshK_all (zs : List Int) : hshK zs zs.length = hsh zs := by rw [hshK, List.take_length]

/-- The document's exclusive or, bit by bit. -/
def eiK (low c : Int) (k : Nat) : Int := (((low.toNat ^^^ c.toNat) % 2 ^ k : Nat) : Int)
theorem eiK_succ (low c : Int) (k : Nat) (h0 : 0 ≤ low) (c0 : 0 ≤ c) : eiK low c (k + 1) = if low / (2 ^ k : Nat) % 2 = c / (2 ^ k : Nat) % 2 then eiK low c k else eiK low c k + (2 ^ k : Nat) := by
  obtain ⟨x, rfl⟩ := Int.eq_ofNat_of_zero_le h0
  obtain ⟨y, rfl⟩ := Int.eq_ofNat_of_zero_le c0
  unfold eiK
  simp only [Int.toNat_natCast]
  rw [Nat.mod_pow_succ]
  have hb : (x ^^^ y) / 2 ^ k % 2 = if x / 2 ^ k % 2 = y / 2 ^ k % 2 then 0 else 1 := by
    have h := Nat.testBit_xor x y k
    simp only [Nat.testBit_eq_decide_div_mod_eq] at h
    have h1 := Nat.mod_two_eq_zero_or_one (x / 2 ^ k)
    have h2 := Nat.mod_two_eq_zero_or_one (y / 2 ^ k)
    have h3 := Nat.mod_two_eq_zero_or_one ((x ^^^ y) / 2 ^ k)
    rcases h1 with h1 | h1 <;> rcases h2 with h2 | h2 <;> rcases h3 with h3 | h3 <;> simp_all
  rw [hb]
  by_cases hc : x / 2 ^ k % 2 = y / 2 ^ k % 2
  · rw [if_pos hc, if_pos (by have := congrArg (fun n : Nat => (n : Int)) hc; simpa using this)]
    simp
  · rw [if_neg hc, if_neg (by intro h; apply hc; have h' : ((x / 2 ^ k % 2 : Nat) : Int) = ((y / 2 ^ k % 2 : Nat) : Int) := by simpa using h
                              exact Int.ofNat.inj h')]
    simp
theorem eiK_bd (low c : Int) (k : Nat) : 0 ≤ eiK low c k ∧ eiK low c k < (2 ^ k : Nat) := by
  unfold eiK
  have := Nat.mod_lt (low.toNat ^^^ c.toNat) (Nat.two_pow_pos k)
  omega
theorem ei_all (h c : Int) (h0 : 0 ≤ h) (c0 : 0 ≤ c) (c1 : c ≤ 255) : h / 256 * 256 + eiK (h % 256) c 8 = ((h.toNat ^^^ c.toNat : Nat) : Int) := by
  obtain ⟨x, rfl⟩ := Int.eq_ofNat_of_zero_le h0
  obtain ⟨y, rfl⟩ := Int.eq_ofNat_of_zero_le c0
  unfold eiK
  have e1 : ((x : Int) % 256).toNat = x % 256 := by omega
  rw [e1]
  simp only [Int.toNat_natCast]
  have h1 : (x ^^^ y) % 2 ^ 8 = x % 2 ^ 8 ^^^ y % 2 ^ 8 := Nat.xor_mod_two_pow
  have h2 : (x ^^^ y) / 2 ^ 8 = x / 2 ^ 8 ^^^ y / 2 ^ 8 := Nat.xor_div_two_pow
  have h3 : y / 2 ^ 8 = 0 := by omega
  have h4 : y % 2 ^ 8 = y := by omega
  rw [h3, Nat.xor_zero] at h2
  rw [h4] at h1
  have h5 := Nat.div_add_mod (x ^^^ y) (2 ^ 8)
  rw [h1, h2] at h5
  have h6 : (x % 256 ^^^ y) % 2 ^ 8 = x % 256 ^^^ y := by
    have : (x % 256 ^^^ y) = (x ^^^ y) % 2 ^ 8 := by rw [h1]
    rw [this, Nat.mod_mod]
  rw [h6]
  have h7 : (2 : Nat) ^ 8 = 256 := rfl
  rw [h7] at h5
  omega

/-- The numbers below k that are in a list, rising. -/
def ascK (zs : List Int) : Nat → List Int
  | 0 => []
  | k + 1 => if zs.contains (k : Int) then ascK zs k ++ [(k : Int)] else ascK zs k
def asc (zs : List Int) : List Int := ascK zs 256
theorem ascK_len (zs : List Int) (k : Nat) : (ascK zs k).length ≤ k := by
  induction k with
  | zero => simp [ascK]
  | succ k ih =>
    rw [ascK]
    split
    · rw [List.length_append, List.length_singleton]; omega
    · omega
theorem ascK_mem (zs : List Int) (k : Nat) (b : Int) : b ∈ ascK zs k ↔ b ∈ zs ∧ 0 ≤ b ∧ b < k := by
  induction k with
  | zero => simp only [ascK, List.not_mem_nil, false_iff]; omega
  | succ k ih =>
    rw [ascK]
    split
    · rename_i h
      rw [List.contains_iff_mem] at h
      rw [List.mem_append, ih]
      constructor
      · rintro (h1 | h1)
        · exact ⟨h1.1, by omega, by omega⟩
        · simp at h1; subst h1; exact ⟨h, by omega, by omega⟩
      · rintro ⟨h1, h2, h3⟩
        by_cases hb : b = k
        · right; simp [hb]
        · left; exact ⟨h1, h2, by omega⟩
    · rename_i h
      rw [List.contains_iff_mem] at h
      rw [ih]
      constructor
      · rintro ⟨h1, h2, h3⟩; exact ⟨h1, h2, by omega⟩
      · rintro ⟨h1, h2, h3⟩
        refine ⟨h1, h2, ?_⟩
        by_cases hb : b = k
        · subst hb; exact absurd h1 h
        · omega
theorem ascK_bd (zs : List Int) (k : Nat) : ∀ b ∈ ascK zs k, 0 ≤ b ∧ b < k := fun b h => ((ascK_mem zs k b).1 h).2
theorem ascK_cong (zs ys : List Int) (h : ∀ b, b ∈ zs ↔ b ∈ ys) (k : Nat) : ascK zs k = ascK ys k := by
  induction k with
  | zero => rfl
  | succ k ih =>
    rw [ascK, ascK, ih]
    have : zs.contains (k : Int) = ys.contains (k : Int) := by
      rw [Bool.eq_iff_iff, List.contains_iff_mem, List.contains_iff_mem]; exact h _
    rw [this]
/-- One number more in the list. -/
theorem ascK_cons_len (a : Int) (zs : List Int) (ha : a ∉ zs) (a0 : 0 ≤ a) (k : Nat) : (ascK (a :: zs) k).length = (ascK zs k).length + if a < k then 1 else 0 := by
  induction k with
  | zero => simp [ascK]; omega
  | succ k ih =>
    rw [ascK, ascK]
    by_cases hk : (k : Int) = a
    · subst hk
      have h1 : zs.contains (k : Int) = false := by
        rw [Bool.eq_false_iff]; intro h; exact ha (List.contains_iff_mem.1 h)
      simp only [List.contains_cons, BEq.rfl, Bool.true_or, if_true, h1, List.length_append, List.length_singleton, ih]
      simp
      omega
    · have h2 : (((k : Int) == a) : Bool) = false := by simpa using hk
      simp only [List.contains_cons, h2, Bool.false_or]
      have e : (if a < ((k + 1 : Nat) : Int) then 1 else 0) = if a < (k : Int) then 1 else 0 := by
        by_cases h : a < (k : Int)
        · rw [if_pos h, if_pos (by omega)]
        · rw [if_neg h, if_neg (by omega)]
      rw [e]
      split
      · simp only [List.length_append, ih, List.length_singleton]; omega
      · rw [ih]
/-- No number twice. -/
def nd : List Int → Bool
  | [] => true
  | a :: l => !l.contains a && nd l
theorem asc_len (zs : List Int) (hb : ∀ z ∈ zs, 0 ≤ z ∧ z ≤ 255) : (asc zs).length ≤ zs.length ∧ ((asc zs).length = zs.length ↔ nd zs = true) := by
  induction zs with
  | nil =>
    have : ∀ k, ascK [] k = [] := by intro k; induction k with | zero => rfl | succ k ih => simp [ascK, ih]
    simp [asc, this, nd]
  | cons a zs ih =>
    have ih := ih (fun z hz => hb z (List.mem_cons_of_mem _ hz))
    have ha := hb a (List.mem_cons_self)
    by_cases hm : a ∈ zs
    · have e : asc (a :: zs) = asc zs := ascK_cong _ _ (fun b => by simp; rintro rfl; exact hm) _
      rw [e, nd]
      have : zs.contains a = true := List.contains_iff_mem.2 hm
      simp only [this, Bool.not_true, Bool.false_and, List.length_cons]
      refine ⟨by omega, ?_⟩
      constructor
      · intro h; omega
      · intro h; simp at h
    · have e := ascK_cons_len a zs hm ha.1 256
      have : zs.contains a = false := by rw [Bool.eq_false_iff]; intro h; exact hm (List.contains_iff_mem.1 h)
      rw [if_pos (by omega)] at e
      unfold asc at *
      rw [e, nd, this]
      simp only [Bool.not_false, Bool.true_and, List.length_cons]
      refine ⟨by omega, ?_⟩
      rw [← ih.2]
      omega
theorem asc_nil (zs : List Int) (hb : ∀ z ∈ zs, 0 ≤ z ∧ z ≤ 255) : asc zs = [] ↔ zs = [] := by
  constructor
  · intro h
    cases zs with
    | nil => rfl
    | cons a l =>
      have : a ∈ asc (a :: l) := (ascK_mem _ _ _).2 ⟨List.mem_cons_self, (hb a List.mem_cons_self).1, by have := (hb a List.mem_cons_self).2; omega⟩
      rw [h] at this; simp at this
  · rintro rfl
    have : ∀ k, ascK [] k = [] := by intro k; induction k with | zero => rfl | succ k ih => simp [ascK, ih]
    exact this _

/-- The slot that is taken: the first free one. -/
def wanF (tk : Nat → Bool) (s : Nat) : Nat → Nat → Nat
  | 0, at' => at'
  | n + 1, at' => if tk at' then wanF tk s n ((at' + s) % 31) else at'
theorem wanF_lt (tk : Nat → Bool) (s : Nat) : ∀ n at', at' < 31 → wanF tk s n at' < 31 := by
  intro n
  induction n with
  | zero => intro a h; exact h
  | succ n ih => intro a h; rw [wanF]; split; exact ih _ (Nat.mod_lt _ (by omega)); exact h
def fB (b : Int) : Nat := (hsh [b, 0]).toNat % 31
def sB (b : Int) : Nat := (hsh [b, 1]).toNat % 30 + 1
/-- A table in the making: who has which slot. -/
def tkd (Z : List (Option Int)) (i : Nat) : Bool := (Z.getD i none).isSome
def slotOf (b : Int) (Z : List (Option Int)) : Nat := wanF (tkd Z) (sB b) 30 (fB b)
theorem slotOf_lt (b : Int) (Z : List (Option Int)) : slotOf b Z < 31 := wanF_lt _ _ _ _ (Nat.mod_lt _ (by omega))
def tbK (ord : List Int) : Nat → List (Option Int)
  | 0 => List.replicate 31 none
  | k + 1 => (tbK ord k).set (slotOf (ord.getD (k % ord.length) 0) (tbK ord k)) (some (ord.getD (k % ord.length) 0))
theorem tbK_len (ord : List Int) (k : Nat) : (tbK ord k).length = 31 := by
  induction k with
  | zero => rfl
  | succ k ih => rw [tbK, List.length_set, ih]
def tbl (zs : List Int) : List Int := (tbK (asc zs) 31).map (·.getD 0)

/-- A backend comes by every slot. -/
theorem all_slots (f s t : Nat) (hf : f < 31) (hs0 : 1 ≤ s) (hs1 : s ≤ 30) (ht : t < 31) : ∃ j, j < 31 ∧ (f + j * s) % 31 = t := by
  have key : ∀ u, u * s % 31 = 1 → ∃ j, j < 31 ∧ (f + j * s) % 31 = t := by
    intro u hu
    refine ⟨(t + 31 - f) * u % 31, Nat.mod_lt _ (by omega), ?_⟩
    rw [Nat.add_mod, Nat.mul_mod, Nat.mod_mod, ← Nat.mul_mod, ← Nat.add_mod, Nat.mul_assoc, Nat.add_mod, Nat.mul_mod, hu, Nat.mul_one, Nat.mod_mod, ← Nat.add_mod]
    omega
  have : ∃ u, u < 31 ∧ u * s % 31 = 1 := by
    have H : ∀ s : Fin 31, s.val ≠ 0 → ∃ u : Fin 31, u.val * s.val % 31 = 1 := by decide
    obtain ⟨u, hu⟩ := H ⟨s, by omega⟩ (by show s ≠ 0; omega)
    exact ⟨u.val, u.isLt, hu⟩
  obtain ⟨u, _, hu⟩ := this
  exact key u hu
theorem wanF_first (tk : Nat → Bool) (f s : Nat) : ∀ n j, (∀ i, i < j → tk ((f + i * s) % 31) = true) → j + n = 30 → (∃ i, i ≤ 30 ∧ tk ((f + i * s) % 31) = false) →
    tk (wanF tk s n ((f + j * s) % 31)) = false := by
  intro n
  induction n with
  | zero =>
    intro j h1 h2 ⟨i, h3, h4⟩
    rw [wanF]
    by_cases hij : i < j
    · rw [h1 i hij] at h4; simp at h4
    · obtain rfl : i = j := by omega
      exact h4
  | succ n ih =>
    intro j h1 h2 hex
    rw [wanF]
    split
    · rename_i ht
      have e : ((f + j * s) % 31 + s) % 31 = (f + (j + 1) * s) % 31 := by
        rw [Nat.mod_add_mod, Nat.add_mul]; congr 1; omega
      rw [e]
      refine ih (j + 1) ?_ (by omega) hex
      intro i hi
      by_cases hij : i < j
      · exact h1 i hij
      · obtain rfl : i = j := by omega
        exact ht
    · rename_i ht
      simpa using ht
theorem wanF_step (tk : Nat → Bool) (f s j : Nat) (hj : j < 30) (ht : tk ((f + j * s) % 31) = true) : wanF tk s (30 - j) ((f + j * s) % 31) = wanF tk s (30 - (j + 1)) ((f + (j + 1) * s) % 31) := by
  obtain ⟨n, hn⟩ : ∃ n, 30 - j = n + 1 := ⟨29 - j, by omega⟩
  rw [hn, wanF, if_pos ht]
  have e : ((f + j * s) % 31 + s) % 31 = (f + (j + 1) * s) % 31 := by
    rw [Nat.mod_add_mod, Nat.add_mul]; congr 1; omega
  rw [e]
  congr 1
  omega

theorem count_set {α} [BEq α] [LawfulBEq α] (Z : List α) (i : Nat) (x y z : α) (h : Z[i]? = some x) : (Z.set i y).count z + (if x == z then 1 else 0) = Z.count z + (if y == z then 1 else 0) := by
  induction Z generalizing i with
  | nil => simp at h
  | cons a l ih =>
    cases i with
    | zero =>
      simp only [List.getElem?_cons_zero, Option.some.injEq] at h
      subst h
      rw [List.set_cons_zero, List.count_cons, List.count_cons]
      omega
    | succ i =>
      simp only [List.getElem?_cons_succ] at h
      rw [List.set_cons_succ, List.count_cons, List.count_cons]
      have := ih i h
      omega
theorem free_ex (Z : List (Option Int)) (h : 0 < Z.count none) : ∃ t, t < Z.length ∧ tkd Z t = false := by
  have hm : none ∈ Z := List.count_pos_iff.1 h
  obtain ⟨t, ht, he⟩ := List.getElem_of_mem hm
  refine ⟨t, ht, ?_⟩
  rw [tkd, List.getD_eq_getElem?_getD, List.getElem?_eq_getElem ht, he]
  rfl
theorem slotOf_free (b : Int) (Z : List (Option Int)) (hl : Z.length = 31) (h : 0 < Z.count none) : tkd Z (slotOf b Z) = false := by
  obtain ⟨t, ht, hf⟩ := free_ex Z h
  obtain ⟨j, hj, he⟩ := all_slots (fB b) (sB b) t (Nat.mod_lt _ (by omega)) (by unfold sB; omega) (by unfold sB; have := Nat.mod_lt (hsh [b, 1]).toNat (show 0 < 30 by omega); omega) (by omega)
  have := wanF_first (tkd Z) (fB b) (sB b) 30 0 (by intro i hi; omega) (by omega) ⟨j, by omega, by rw [he]; exact hf⟩
  rw [Nat.zero_mul, Nat.add_zero, Nat.mod_eq_of_lt (show fB b < 31 from Nat.mod_lt _ (by omega))] at this
  exact this
theorem tkd_none (Z : List (Option Int)) (i : Nat) (hi : i < Z.length) (h : tkd Z i = false) : Z[i]? = some none := by
  rw [tkd, List.getD_eq_getElem?_getD, List.getElem?_eq_getElem hi] at h
  rw [List.getElem?_eq_getElem hi]
  simpa using h
theorem tbK_none (ord : List Int) (k : Nat) (hk : k ≤ 31) : (tbK ord k).count none = 31 - k := by
  induction k with
  | zero => simp [tbK]
  | succ k ih =>
    have ih := ih (by omega)
    have hfr := slotOf_free (ord.getD (k % ord.length) 0) (tbK ord k) (tbK_len _ _) (by omega)
    have := count_set (tbK ord k) _ none (some (ord.getD (k % ord.length) 0)) none (tkd_none _ _ (by rw [tbK_len]; exact slotOf_lt _ _) hfr)
    rw [tbK]
    simp only [beq_self_eq_true, if_true, show ((some (ord.getD (k % ord.length) 0) : Option Int) == none) = false from rfl] at this
    simp only [Bool.false_eq_true, if_false] at this
    omega
theorem tbK_free (ord : List Int) (k : Nat) (hk : k < 31) : tkd (tbK ord k) (slotOf (ord.getD (k % ord.length) 0) (tbK ord k)) = false :=
  slotOf_free _ _ (tbK_len _ _) (by rw [tbK_none _ _ (by omega)]; omega)
/-- How many of the first k rounds are those of b. -/
def turns (ord : List Int) (b : Int) : Nat → Nat
  | 0 => 0
  | k + 1 => turns ord b k + if ord.getD (k % ord.length) 0 = b then 1 else 0
theorem tbK_count (ord : List Int) (b : Int) (k : Nat) (hk : k ≤ 31) : (tbK ord k).count (some b) = turns ord b k := by
  induction k with
  | zero => simp [tbK, turns]
  | succ k ih =>
    have ih := ih (by omega)
    have := count_set (tbK ord k) _ none (some (ord.getD (k % ord.length) 0)) (some b) (tkd_none _ _ (by rw [tbK_len]; exact slotOf_lt _ _) (tbK_free ord k (by omega)))
    rw [tbK, turns]
    simp only [beq_iff_eq, Option.some.injEq, reduceCtorEq, if_false, Nat.add_zero] at this
    rw [this, ih]
theorem count_getD (Z : List (Option Int)) (b : Int) (h : Z.count none = 0) : (Z.map (·.getD 0)).count b = Z.count (some b) := by
  induction Z with
  | nil => rfl
  | cons a l ih =>
    rw [List.count_cons] at h
    cases a with
    | none => exfalso; simp at h
    | some c =>
      rw [List.map_cons, List.count_cons, List.count_cons, ih (by omega)]
      by_cases hc : c = b <;> simp [hc]
theorem tbl_count (zs : List Int) (b : Int) : (tbl zs).count b = turns (asc zs) b 31 := by
  rw [tbl, count_getD _ _ (by rw [tbK_none _ _ (by omega)]), tbK_count _ _ _ (by omega)]
theorem tbl_len (zs : List Int) : (tbl zs).length = 31 := by rw [tbl, List.length_map, tbK_len]

/-- No number twice, by places. -/
theorem nd_get (zs : List Int) : nd zs = true ↔ ∀ i k, k < i → i < zs.length → zs.getD i 0 ≠ zs.getD k 0 := by
  induction zs with
  | nil => simp [nd]
  | cons a l ih =>
    rw [nd, Bool.and_eq_true, ih]
    constructor
    · rintro ⟨h1, h2⟩ i k hk hi
      cases i with
      | zero => omega
      | succ i =>
        simp only [List.length_cons] at hi
        cases k with
        | zero =>
          simp only [List.getD_cons_succ, List.getD_cons_zero]
          intro h
          have hc : l.contains a = false := by simpa using h1
          rw [Bool.eq_false_iff] at hc
          apply hc
          rw [List.contains_iff_mem, ← h, List.getD_eq_getElem?_getD, List.getElem?_eq_getElem (by omega)]
          exact List.getElem_mem _
        | succ k =>
          simp only [List.getD_cons_succ]
          exact h2 i k (by omega) (by omega)
    · intro h
      refine ⟨?_, ?_⟩
      · rw [Bool.not_eq_true', Bool.eq_false_iff]
        intro hc
        rw [List.contains_iff_mem] at hc
        obtain ⟨i, hi, he⟩ := List.getElem_of_mem hc
        have := h (i + 1) 0 (by omega) (by simp; omega)
        rw [List.getD_cons_succ, List.getD_cons_zero, List.getD_eq_getElem?_getD, List.getElem?_eq_getElem hi, he] at this
        exact this rfl
      · intro i k hk hi
        have := h (i + 1) (k + 1) (by omega) (by simp; omega)
        simpa only [List.getD_cons_succ] using this
theorem nd_count (zs : List Int) (h : nd zs = true) (b : Int) : zs.count b = if zs.contains b then 1 else 0 := by
  induction zs with
  | nil => simp
  | cons a l ih =>
    rw [nd, Bool.and_eq_true] at h
    rw [List.count_cons, ih h.2, List.contains_cons]
    by_cases hab : a = b
    · subst hab
      have hc : l.contains a = false := by simpa using h.1
      rw [hc]
      simp
    · have h1 : (a == b) = false := by simpa using hab
      have h2 : (b == a) = false := by simpa using Ne.symm hab
      rw [h1, h2]
      simp
theorem ascK_nd (zs : List Int) (h : nd zs = true) (k : Nat) : ascK zs (k + 1) = ascK zs k ++ List.replicate (zs.count (k : Int)) (k : Int) := by
  rw [nd_count zs h, ascK]
  split <;> simp
theorem count_take_succ (zs : List Int) (i : Nat) (b : Int) (hi : i < zs.length) : (zs.take (i + 1)).count b = (zs.take i).count b + if zs.getD i 0 = b then 1 else 0 := by
  rw [List.take_add_one, List.count_append, List.getElem?_eq_getElem hi, List.getD_eq_getElem?_getD, List.getElem?_eq_getElem hi]
  by_cases h : zs[i] = b <;> simp [h]

end Go.Proofs.YtajphdppmdoalaaGreat
