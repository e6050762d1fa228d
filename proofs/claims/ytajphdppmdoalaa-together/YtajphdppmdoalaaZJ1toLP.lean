import Derived.Laws.BitsAllLaws
import Derived.WalkKit
namespace Go.Proofs.Ytajphdppmdoalaa

/-- One byte more into a hash. -/
def hshx (h z : Int) : Int := (((h.toNat ^^^ z.toNat : Nat) : Int) * 16777619) % 4294967296
def hsh (zs : List Int) : Int := zs.foldl hshx 2166136261
theorem hshx_bd (h z : Int) : 0 ≤ hshx h z ∧ hshx h z ≤ 4294967295 := by unfold hshx; omega
theorem foldl_bd (zs : List Int) : ∀ h : Int, 0 ≤ h ∧ h ≤ 4294967295 → 0 ≤ zs.foldl hshx h ∧ zs.foldl hshx h ≤ 4294967295 := by
  induction zs with
  | nil => intro h hh; exact hh
  | cons z zs ih => intro h _; exact ih _ (hshx_bd h z)
theorem hsh_bd (zs : List Int) : 0 ≤ hsh zs ∧ hsh zs ≤ 4294967295 := foldl_bd zs _ (by omega)
def hshK (zs : List Int) (k : Nat) : Int := hsh (zs.take k)
theorem hshK_bd (zs : List Int) (k : Nat) : 0 ≤ hshK zs k ∧ hshK zs k ≤ 4294967295 := hsh_bd _
theorem hshK_succ (zs : List Int) (k : Nat) (hk : k < zs.length) : hshK zs (k + 1) = hshx (hshK zs k) (zs.getD k 0) := by
  unfold hshK hsh
  rw [List.take_add_one, List.foldl_append, List.getElem?_eq_getElem hk, List.getD_eq_getElem?_getD, List.getElem?_eq_getElem hk]
  rfl
theorem hshK_all (zs : List Int) : hshK zs zs.length = hsh zs := by rw [hshK, List.take_length]

/-- The document's exclusive or, bit by bit. -/
def eiK (low c : Int) (k : Nat) : Int := (((low.toNat ^^^ c.toNat) % 2 ^ k : Nat) : Int)
theorem eiK_succ (low c : Int) (k : Nat) (h0 : 0 ≤ low) (c0 : 0 ≤ c) : eiK low c (k + 1) = if low / (2 ^ k : Nat) % 2 = c / (2 ^ k : Nat) % 2 then eiK low c k else eiK low c k + (2 ^ k : Nat) := by
  obtain ⟨x, rfl⟩ := Int.eq_ofNat_of_zero_le h0
  obtain ⟨y, rfl⟩ := Int.eq_ofNat_of_zero_le c0
  unfold eiK
  simp only [Int.toNat_natCast]
  rw [Nat.mod_pow_succ]
  have hb : (x ^^^ y) / 2 ^ k % 2 = if x / 2 ^ k % 2 = y / 2 ^ k % 2 then 0 else 1 := by
    have h := Nat.testBit_xor x y k
    simp only [Nat.testBit_eq_decide_div_mod_eq] at h
    have h1 := Nat.mod_two_eq_zero_or_one (x / 2 ^ k)
    have h2 := Nat.mod_two_eq_zero_or_one (y / 2 ^ k)
    have h3 := Nat.mod_two_eq_zero_or_one ((x ^^^ y) / 2 ^ k)
    rcases h1 with h1 | h1 <;> rcases h2 with h2 | h2 <;> rcases h3 with h3 | h3 <;> simp_all
  rw [hb]
  by_cases hc : x / 2 ^ k % 2 = y / 2 ^ k % 2
  · rw [if_pos hc, if_pos (by have := congrArg (fun n : Nat => (n : Int)) hc; simpa using this)]
    simp
  · rw [if_neg hc, if_neg (by intro h; apply hc; have h' : ((x / 2 ^ k % 2 : Nat) : Int) = ((y / 2 ^ k % 2 : Nat) : Int) := by simpa using h
                              exact Int.ofNat.inj h')]
    simp
theorem eiK_bd (low c : Int) (k : Nat) : 0 ≤ eiK low c k ∧ eiK low c k < (2 ^ k : Nat) := by
  unfold eiK
  have := Nat.mod_lt (low.toNat ^^^ c.toNat) (Nat.two_pow_pos k)
  omega
theorem ei_all (h c : Int) (h0 : 0 ≤ h) (c0 : 0 ≤ c) (c1 : c ≤ 255) : h / 256 * 256 + eiK (h % 256) c 8 = ((h.toNat ^^^ c.toNat : Nat) : Int) := by
  obtain ⟨x, rfl⟩ := Int.eq_ofNat_of_zero_le h0
  obtain ⟨y, rfl⟩ := Int.eq_ofNat_of_zero_le c0
  unfold eiK
  have e1 : ((x : Int) % 256).toNat = x % 256 := by omega
  rw [e1]
  simp only [Int.toNat_natCast]
  have h1 : (x ^^^ y) % 2 ^ 8 = x % 2 ^ 8 ^^^ y % 2 ^ 8 := Nat.xor_mod_two_pow
  have h2 : (x ^^^ y) / 2 ^ 8 = x / 2 ^ 8 ^^^ y / 2 ^ 8 := Nat.xor_div_two_pow
  have h3 : y / 2 ^ 8 = 0 := by omega
  have h4 : y % 2 ^ 8 = y := by omega
  rw [h3, Nat.xor_zero] at h2
  rw [h4] at h1
  have h5 := Nat.div_add_mod (x ^^^ y) (2 ^ 8)
  rw [h1, h2] at h5
  have h6 : (x % 256 ^^^ y) % 2 ^ 8 = x % 256 ^^^ y := by
    have : (x % 256 ^^^ y) = (x ^^^ y) % 2 ^ 8 := by rw [h1]
    rw [this, Nat.mod_mod]
  rw [h6]
  have h7 : (2 : Nat) ^ 8 = 256 := rfl
  rw [h7] at h5
  omega

/-- The numbers below k that are in a list, rising. -/
def ascK (zs : List Int) : Nat → List Int
  | 0 => []
  | k + 1 => if zs.contains (k : Int) then ascK zs k ++ [(k : Int)] else ascK zs k
def asc (zs : List Int) : List Int := ascK zs 256
theorem ascK_len (zs : List Int) (k : Nat) : (ascK zs k).length ≤ k := by
  induction k with
  | zero => simp [ascK]
  | succ k ih =>
    rw [ascK]
    split
    · rw [List.length_append, List.length_singleton]; omega
    · omega
theorem ascK_mem (zs : List Int) (k : Nat) (b : Int) : b ∈ ascK zs k ↔ b ∈ zs ∧ 0 ≤ b ∧ b < k := by
  induction k with
  | zero => simp only [ascK, List.not_mem_nil, false_iff]; omega
  | succ k ih =>
    rw [ascK]
    split
    · rename_i h
      rw [List.contains_iff_mem] at h
      rw [List.mem_append, ih]
      constructor
      · rintro (h1 | h1)
        · exact ⟨h1.1, by omega, by omega⟩
        · simp at h1; subst h1; exact ⟨h, by omega, by omega⟩
      · rintro ⟨h1, h2, h3⟩
        by_cases hb : b = k
        · right; simp [hb]
        · left; exact ⟨h1, h2, by omega⟩
    · rename_i h
      rw [List.contains_iff_mem] at h
      rw [ih]
      constructor
      · rintro ⟨h1, h2, h3⟩; exact ⟨h1, h2, by omega⟩
      · rintro ⟨h1, h2, h3⟩
        refine ⟨h1, h2, ?_⟩
        by_cases hb : b = k
        · subst hb; exact absurd h1 h
        · omega
theorem ascK_bd (zs : List Int) (k : Nat) : ∀ b ∈ ascK zs k, 0 ≤ b ∧ b < k := fun b h => ((ascK_mem zs k b).1 h).2
theorem ascK_cong (zs ys : List Int) (h : ∀ b, b ∈ zs ↔ b ∈ ys) (k : Nat) : ascK zs k = ascK ys k := by
  induction k with
  | zero => rfl
  | succ k ih =>
    rw [ascK, ascK, ih]
    have : zs.contains (k : Int) = ys.contains (k : Int) := by
      rw [Bool.eq_iff_iff, List.contains_iff_mem, List.contains_iff_mem]; exact h _
    rw [this]
/-- One number more in the list. -/
theorem ascK_cons_len (a : Int) (zs : List Int) (ha : a ∉ zs) (a0 : 0 ≤ a) (k : Nat) : (ascK (a :: zs) k).length = (ascK zs k).length + if a < k then 1 else 0 := by
  induction k with
  | zero => simp [ascK]; omega
  | succ k ih =>
    rw [ascK, ascK]
    by_cases hk : (k : Int) = a
    · subst hk
      have h1 : zs.contains (k : Int) = false := by
        rw [Bool.eq_false_iff]; intro h; exact ha (List.contains_iff_mem.1 h)
      simp only [List.contains_cons, BEq.rfl, Bool.true_or, if_true, h1, List.length_append, List.length_singleton, ih]
      simp
      omega
    · have h2 : (((k : Int) == a) : Bool) = false := by simpa using hk
      simp only [List.contains_cons, h2, Bool.false_or]
      have e : (if a < ((k + 1 : Nat) : Int) then 1 else 0) = if a < (k : Int) then 1 else 0 := by
        by_cases h : a < (k : Int)
        · rw [if_pos h, if_pos (by omega)]
        · rw [if_neg h, if_neg (by omega)]
      rw [e]
      split
      · simp only [List.length_append, ih, List.length_singleton]; omega
      · rw [ih]
/-- No number twice. -/
def nd : List Int → Bool
  | [] => true
  | a :: l => !l.contains a && nd l
theorem asc_len (zs : List Int) (hb : ∀ z ∈ zs, 0 ≤ z ∧ z ≤ 255) : (asc zs).length ≤ zs.length ∧ ((asc zs).length = zs.length ↔ nd zs = true) := by
  induction zs with
  | nil =>
    have : ∀ k, ascK [] k = [] := by intro k; induction k with | zero => rfl | succ k ih => simp [ascK, ih]
    simp [asc, this, nd]
  | cons a zs ih =>
    have ih := ih (fun z hz => hb z (List.mem_cons_of_mem _ hz))
    have ha := hb a (List.mem_cons_self)
    by_cases hm : a ∈ zs
    · have e : asc (a :: zs) = asc zs := ascK_cong _ _ (fun b => by simp; rintro rfl; exact hm) _
      rw [e, nd]
      have : zs.contains a = true := List.contains_iff_mem.2 hm
      simp only [this, Bool.not_true, Bool.false_and, List.length_cons]
      refine ⟨by omega, ?_⟩
      constructor
      · intro h; omega
      · intro h; simp at h
    · have e := ascK_cons_len a zs hm ha.1 256
      have : zs.contains a = false := by rw [Bool.eq_false_iff]; intro h; exact hm (List.contains_iff_mem.1 h)
      rw [if_pos (by omega)] at e
      unfold asc at *
      rw [e, nd, this]
      simp only [Bool.not_false, Bool.true_and, List.length_cons]
      refine ⟨by omega, ?_⟩
      rw [← ih.2]
      omega
theorem asc_nil (zs : List Int) (hb : ∀ z ∈ zs, 0 ≤ z ∧ z ≤ 255) : asc zs = [] ↔ zs = [] := by
  constructor
  · intro h
    cases zs with
    | nil => rfl
    | cons a l =>
      have : a ∈ asc (a :: l) := (ascK_mem _ _ _).2 ⟨List.mem_cons_self, (hb a List.mem_cons_self).1, by have := (hb a List.mem_cons_self).2; omega⟩
      rw [h] at this; simp at this
  · rintro rfl
    have : ∀ k, ascK [] k = [] := by intro k; induction k with | zero => rfl | succ k ih => simp [ascK, ih]
    exact this _

/-- The slot that is taken: the first free one. -/
def wanF (tk : Nat → Bool) (s : Nat) : Nat → Nat → Nat
  | 0, at' => at'
  | n + 1, at' => if tk at' then wanF tk s n ((at' + s) % 31) else at'
theorem wanF_lt (tk : Nat → Bool) (s : Nat) : ∀ n at', at' < 31 → wanF tk s n at' < 31 := by
  intro n
  induction n with
  | zero => intro a h; exact h
  | succ n ih => intro a h; rw [wanF]; split; exact ih _ (Nat.mod_lt _ (by omega)); exact h
def fB (b : Int) : Nat := (hsh [b, 0]).toNat % 31
def sB (b : Int) : Nat := (hsh [b, 1]).toNat % 30 + 1
/-- A table in the making: who has which slot. -/
def tkd (Z : List (Option Int)) (i : Nat) : Bool := (Z.getD i none).isSome
def slotOf (b : Int) (Z : List (Option Int)) : Nat := wanF (tkd Z) (sB b) 30 (fB b)
theorem slotOf_lt (b : Int) (Z : List (Option Int)) : slotOf b Z < 31 := wanF_lt _ _ _ _ (Nat.mod_lt _ (by omega))
def tbK (ord : List Int) : Nat → List (Option Int)
  | 0 => List.replicate 31 none
  | k + 1 => (tbK ord k).set (slotOf (ord.getD (k % ord.length) 0) (tbK ord k)) (some (ord.getD (k % ord.length) 0))
theorem tbK_len (ord : List Int) (k : Nat) : (tbK ord k).length = 31 := by
  induction k with
  | zero => rfl
  | succ k ih => rw [tbK, List.length_set, ih]
def tbl (zs : List Int) : List Int := (tbK (asc zs) 31).map (·.getD 0)

/-- A backend comes by every slot. -/
theorem all_slots (f s t : Nat) (hf : f < 31) (hs0 : 1 ≤ s) (hs1 : s ≤ 30) (ht : t < 31) : ∃ j, j < 31 ∧ (f + j * s) % 31 = t := by
  have key : ∀ u, u * s % 31 = 1 → ∃ j, j < 31 ∧ (f + j * s) % 31 = t := by
    intro u hu
    refine ⟨(t + 31 - f) * u % 31, Nat.mod_lt _ (by omega), ?_⟩
    rw [Nat.add_mod, Nat.mul_mod, Nat.mod_mod, ← Nat.mul_mod, ← Nat.add_mod, Nat.mul_assoc, Nat.add_mod, Nat.mul_mod, hu, Nat.mul_one, Nat.mod_mod, ← Nat.add_mod]
    omega
  have : ∃ u, u < 31 ∧ u * s % 31 = 1 := by
    have H : ∀ s : Fin 31, s.val ≠ 0 → ∃ u : Fin 31, u.val * s.val % 31 = 1 := by decide
    obtain ⟨u, hu⟩ := H ⟨s, by omega⟩ (by show s ≠ 0; omega)
    exact ⟨u.val, u.isLt, hu⟩
  obtain ⟨u, _, hu⟩ := this
  exact key u hu
theorem wanF_first (tk : Nat → Bool) (f s : Nat) : ∀ n j, (∀ i, i < j → tk ((f + i * s) % 31) = true) → j + n = 30 → (∃ i, i ≤ 30 ∧ tk ((f + i * s) % 31) = false) →
    tk (wanF tk s n ((f + j * s) % 31)) = false := by
  intro n
  induction n with
  | zero =>
    intro j h1 h2 ⟨i, h3, h4⟩
    rw [wanF]
    by_cases hij : i < j
    · rw [h1 i hij] at h4; simp at h4
    · obtain rfl : i = j := by omega
      exact h4
  | succ n ih =>
    intro j h1 h2 hex
    rw [wanF]
    split
    · rename_i ht
      have e : ((f + j * s) % 31 + s) % 31 = (f + (j + 1) * s) % 31 := by
        rw [Nat.mod_add_mod, Nat.add_mul]; congr 1; omega
      rw [e]
      refine ih (j + 1) ?_ (by omega) hex
      intro i hi
      by_cases hij : i < j
      · exact h1 i hij
      · obtain rfl : i = j := by omega
        exact ht
    · rename_i ht
      simpa using ht
theorem wanF_step (tk : Nat → Bool) (f s j : Nat) (hj : j < 30) (ht : tk ((f + j * s) % 31) = true) : wanF tk s (30 - j) ((f + j * s) % 31) = wanF tk s (30 - (j + 1)) ((f + (j + 1) * s) % 31) := by
  obtain ⟨n, hn⟩ : ∃ n, 30 - j = n + 1 := ⟨29 - j, by omega⟩
  rw [hn, wanF, if_pos ht]
  have e : ((f + j * s) % 31 + s) % 31 = (f + (j + 1) * s) % 31 := by
    rw [Nat.mod_add_mod, Nat.add_mul]; congr 1; omega
  rw [e]
  congr 1
  omega

theorem count_set {α} [BEq α] [LawfulBEq α] (Z : List α) (i : Nat) (x y z : α) (h : Z[i]? = some x) : (Z.set i y).count z + (if x == z then 1 else 0) = Z.count z + (if y == z then 1 else 0) := by
  induction Z generalizing i with
  | nil => simp at h
  | cons a l ih =>
    cases i with
    | zero =>
      simp only [List.getElem?_cons_zero, Option.some.injEq] at h
      subst h
      rw [List.set_cons_zero, List.count_cons, List.count_cons]
      omega
    | succ i =>
      simp only [List.getElem?_cons_succ] at h
      rw [List.set_cons_succ, List.count_cons, List.count_cons]
      have := ih i h
      omega
theorem free_ex (Z : List (Option Int)) (h : 0 < Z.count none) : ∃ t, t < Z.length ∧ tkd Z t = false := by
  have hm : none ∈ Z := List.count_pos_iff.1 h
  obtain ⟨t, ht, he⟩ := List.getElem_of_mem hm
  refine ⟨t, ht, ?_⟩
  rw [tkd, List.getD_eq_getElem?_getD, List.getElem?_eq_getElem ht, he]
  rfl
theorem slotOf_free (b : Int) (Z : List (Option Int)) (hl : Z.length = 31) (h : 0 < Z.count none) : tkd Z (slotOf b Z) = false := by
  obtain ⟨t, ht, hf⟩ := free_ex Z h
  obtain ⟨j, hj, he⟩ := all_slots (fB b) (sB b) t (Nat.mod_lt _ (by omega)) (by unfold sB; omega) (by unfold sB; have := Nat.mod_lt (hsh [b, 1]).toNat (show 0 < 30 by omega); omega) (by omega)
  have := wanF_first (tkd Z) (fB b) (sB b) 30 0 (by intro i hi; omega) (by omega) ⟨j, by omega, by rw [he]; exact hf⟩
  rw [Nat.zero_mul, Nat.add_zero, Nat.mod_eq_of_lt (show fB b < 31 from Nat.mod_lt _ (by omega))] at this
  exact this
theorem tkd_none (Z : List (Option Int)) (i : Nat) (hi : i < Z.length) (h : tkd Z i = false) : Z[i]? = some none := by
  rw [tkd, List.getD_eq_getElem?_getD, List.getElem?_eq_getElem hi] at h
  rw [List.getElem?_eq_getElem hi]
  simpa using h
theorem tbK_none (ord : List Int) (k : Nat) (hk : k ≤ 31) : (tbK ord k).count none = 31 - k := by
  induction k with
  | zero => simp [tbK]
  | succ k ih =>
    have ih := ih (by omega)
    have hfr := slotOf_free (ord.getD (k % ord.length) 0) (tbK ord k) (tbK_len _ _) (by omega)
    have := count_set (tbK ord k) _ none (some (ord.getD (k % ord.length) 0)) none (tkd_none _ _ (by rw [tbK_len]; exact slotOf_lt _ _) hfr)
    rw [tbK]
    simp only [beq_self_eq_true, if_true, show ((some (ord.getD (k % ord.length) 0) : Option Int) == none) = false from rfl] at this
    simp only [Bool.false_eq_true, if_false] at this
    omega
theorem tbK_free (ord : List Int) (k : Nat) (hk : k < 31) : tkd (tbK ord k) (slotOf (ord.getD (k % ord.length) 0) (tbK ord k)) = false :=
  slotOf_free _ _ (tbK_len _ _) (by rw [tbK_none _ _ (by omega)]; omega)
/-- How many of the first k rounds are those of b. -/
def turns (ord : List Int) (b : Int) : Nat → Nat
  | 0 => 0
  | k + 1 => turns ord b k + if ord.getD (k % ord.length) 0 = b then 1 else 0
theorem tbK_count (ord : List Int) (b : Int) (k : Nat) (hk : k ≤ 31) : (tbK ord k).count (some b) = turns ord b k := by
  induction k with
  | zero => simp [tbK, turns]
  | succ k ih =>
    have ih := ih (by omega)
    have := count_set (tbK ord k) _ none (some (ord.getD (k % ord.length) 0)) (some b) (tkd_none _ _ (by rw [tbK_len]; exact slotOf_lt _ _) (tbK_free ord k (by omega)))
    rw [tbK, turns]
    simp only [beq_iff_eq, Option.some.injEq, reduceCtorEq, if_false, Nat.add_zero] at this
    rw [this, ih]
theorem count_getD (Z : List (Option Int)) (b : Int) (h : Z.count none = 0) : (Z.map (·.getD 0)).count b = Z.count (some b) := by
  induction Z with
  | nil => rfl
  | cons a l ih =>
    rw [List.count_cons] at h
    cases a with
    | none => exfalso; simp at h
    | some c =>
      rw [List.map_cons, List.count_cons, List.count_cons, ih (by omega)]
      by_cases hc : c = b <;> simp [hc]
theorem tbl_count (zs : List Int) (b : Int) : (tbl zs).count b = turns (asc zs) b 31 := by
  rw [tbl, count_getD _ _ (by rw [tbK_none _ _ (by omega)]), tbK_count _ _ _ (by omega)]
theorem tbl_len (zs : List Int) : (tbl zs).length = 31 := by rw [tbl, List.length_map, tbK_len]

/-- No number twice, by places. -/
theorem nd_get (zs : List Int) : nd zs = true ↔ ∀ i k, k < i → i < zs.length → zs.getD i 0 ≠ zs.getD k 0 := by
  induction zs with
  | nil => simp [nd]
  | cons a l ih =>
    rw [nd, Bool.and_eq_true, ih]
    constructor
    · rintro ⟨h1, h2⟩ i k hk hi
      cases i with
      | zero => omega
      | succ i =>
        simp only [List.length_cons] at hi
        cases k with
        | zero =>
          simp only [List.getD_cons_succ, List.getD_cons_zero]
          intro h
          have hc : l.contains a = false := by simpa using h1
          rw [Bool.eq_false_iff] at hc
          apply hc
          rw [List.contains_iff_mem, ← h, List.getD_eq_getElem?_getD, List.getElem?_eq_getElem (by omega)]
          exact List.getElem_mem _
        | succ k =>
          simp only [List.getD_cons_succ]
          exact h2 i k (by omega) (by omega)
    · intro h
      refine ⟨?_, ?_⟩
      · rw [Bool.not_eq_true', Bool.eq_false_iff]
        intro hc
        rw [List.contains_iff_mem] at hc
        obtain ⟨i, hi, he⟩ := List.getElem_of_mem hc
        have := h (i + 1) 0 (by omega) (by simp; omega)
        rw [List.getD_cons_succ, List.getD_cons_zero, List.getD_eq_getElem?_getD, List.getElem?_eq_getElem hi, he] at this
        exact this rfl
      · intro i k hk hi
        have := h (i + 1) (k + 1) (by omega) (by simp; omega)
        simpa only [List.getD_cons_succ] using this
theorem nd_count (zs : List Int) (h : nd zs = true) (b : Int) : zs.count b = if zs.contains b then 1 else 0 := by
  induction zs with
  | nil => simp
  | cons a l ih =>
    rw [nd, Bool.and_eq_true] at h
    rw [List.count_cons, ih h.2, List.contains_cons]
    by_cases hab : a = b
    · subst hab
      have hc : l.contains a = false := by simpa using h.1
      rw [hc]
      simp
    · have h1 : (a == b) = false := by simpa using hab
      have h2 : (b == a) = false := by simpa using Ne.symm hab
      rw [h1, h2]
      simp
theorem ascK_nd (zs : List Int) (h : nd zs = true) (k : Nat) : ascK zs (k + 1) = ascK zs k ++ List.replicate (zs.count (k : Int)) (k : Int) := by
  rw [nd_count zs h, ascK]
  split <;> simp
theorem count_take_succ (zs : List Int) (i : Nat) (b : Int) (hi : i < zs.length) : (zs.take (i + 1)).count b = (zs.take i).count b + if zs.getD i 0 = b then 1 else 0 := by
  rw [List.take_add_one, List.count_append, List.getElem?_eq_getElem hi, List.getD_eq_getElem?_getD, List.getElem?_eq_getElem hi]
  by_cases h : zs[i] = b <;> simp [h]

end Go.Proofs.Ytajphdppmdoalaa

namespace Go.Proofs.Ytajphdppmdoalaa

/-- The hashes of a packet's datagram and of its flow. -/
def dgH (src dst proto id : Int) : Int := hsh [src / 256, src % 256, dst / 256, dst % 256, proto, id / 256, id % 256]
def flH (src dst proto sport dport : Int) : Int := hsh [src / 256, src % 256, dst / 256, dst % 256, proto, sport / 256, sport % 256, dport / 256, dport % 256]

/-- A packet (of its data only how many bytes there are). -/
structure Pk where
  src : Int
  dst : Int
  proto : Int
  id : Int
  off : Int
  more : Bool
  sport : Int
  dport : Int
  dlen : Nat
/-- A piece that was accepted: its arrival, its bytes from a up to b, is it the last one, is it held back? -/
structure Pc where
  seq : Nat
  a : Int
  b : Int
  ends : Bool
  waits : Bool
/-- What an owner keeps of a datagram. -/
structure Ent where
  owner : Int
  src : Int
  dst : Int
  proto : Int
  id : Int
  born : Int
  pcs : List Pc
  known : Bool
  to : Int
structure Snt where
  seq : Nat
  frm : Int
  to : Int
  p : Pk
structure Ev where
  seq : Nat
  fate : Int
  whr : Int
/-- A cluster, by the document. -/
structure Cl where
  reps : Int
  life : Int
  now : Int
  next : Nat
  slots : List Int
  ents : List Ent
  sent : List Snt
  evs : List Ev

def Cl.new (reps life : Int) : Cl := ⟨reps, life, 0, 0, [], [], [], []⟩
def chosenM (S : Cl) (p : Pk) : Int := S.slots.getD ((flH p.src p.dst p.proto p.sport p.dport).toNat % 31) 0
def ownerM (S : Cl) (p : Pk) : Int := dgH p.src p.dst p.proto p.id % S.reps
def toldM (S : Cl) (seq : Nat) (f w : Int) : Cl := { S with evs := S.evs ++ [⟨seq, f, w⟩] }
def likeM (e : Ent) (p : Pk) : Bool := e.src == p.src && e.dst == p.dst && e.proto == p.proto && e.id == p.id
/-- Pieces that are held back, and their bytes. -/
def waitL (e : Ent) : List Pc := e.pcs.filter (·.waits)
def bytesL (l : List Pc) : Int := (l.map (fun q => q.b - q.a)).sum
def entsM (S : Cl) (o : Int) : List Ent := S.ents.filter (·.owner == o)
def heldN (S : Cl) (o : Int) : Nat := ((entsM S o).flatMap waitL).length
def heldB (S : Cl) (o : Int) : Int := bytesL ((entsM S o).flatMap waitL)
def clashM (old n : Pc) : Bool := (decide (old.a < n.b) && decide (n.a < old.b)) || (old.ends && (n.ends || decide (n.b > old.b))) || (n.ends && decide (old.b > n.b))
def wholeM (e : Ent) : Bool := bytesL e.pcs == ((e.pcs.filter (·.ends)).getLast?.map (·.b)).getD (-1)
/-- The place of the last entry that goes with a packet. -/
def atM (l : List Ent) (p : Pk) : Option Nat := ((List.range l.length).filter (fun i => match l[i]? with | some e => likeM e p | none => false)).getLast?
/-- The piece that a packet is. -/
def pcM (seq : Nat) (p : Pk) : Pc := ⟨seq, 4 * p.off, 4 * p.off + p.dlen, !p.more, false⟩
/-- Why a piece is not accepted (0: there is no reason). -/
def refusedM (S : Cl) (e : Option Ent) (p : Pk) (n : Pc) : Int :=
  if n.a = 0 ∧ S.slots = [] then 2
  else if e.isNone ∧ 3 ≤ (entsM S (ownerM S p)).length then 4
  else if (e.map (fun e => e.pcs.any (fun q => clashM q n))).getD false then 3
  else if 0 < n.a ∧ (e.map (·.known)).getD false = false ∧ 48 < heldB S (ownerM S p) + n.b - n.a then 4
  else 0
/-- The entry behind an accepted piece, and what is told of it. -/
def takenM (S : Cl) (e : Ent) (p : Pk) (n : Pc) : Ent × List Ev :=
  let known := e.known || decide (n.a = 0)
  let «to» := if n.a = 0 then chosenM S p else e.to
  ({ e with known := known, «to» := to, pcs := e.pcs.map (fun q => if known then { q with waits := false } else q) ++ [{ n with waits := !known }] },
    if known then ⟨n.seq, 0, to⟩ :: (waitL e).map (fun q => ⟨q.seq, 0, to⟩) else [])
def goneM (l : List Ent) (i : Nat) : List Ent := l.take i ++ l.drop (i + 1)
/-- A piece comes to its owner. -/
def pieceM (S : Cl) (seq : Nat) (p : Pk) : Cl :=
  let n := pcM seq p
  let i := atM S.ents p
  let f := refusedM S (i.bind (S.ents[·]?)) p n
  if f ≠ 0 then toldM S seq f 0
  else
    let l := match i with | some _ => S.ents | none => S.ents ++ [⟨ownerM S p, p.src, p.dst, p.proto, p.id, S.now, [], false, 0⟩]
    let k := i.getD S.ents.length
    match l[k]? with
    | none => S
    | some e =>
      let r := takenM S e p n
      { S with evs := S.evs ++ r.2, ents := if wholeM r.1 then goneM l k else l.set k r.1 }
def wholePk (p : Pk) : Bool := decide (p.off = 0) && !p.more
/-- Bytes arrive (u: the packet that they are, if they are one). -/
def arriveM (S : Cl) (rep : Int) (u : Option Pk) : Cl :=
  let S' := { S with next := S.next + 1 }
  match u with
  | none => toldM S' S.next 1 0
  | some p =>
    if wholePk p then (if S.slots = [] then toldM S' S.next 2 0 else toldM S' S.next 0 (chosenM S p))
    else if ownerM S p = rep then pieceM S' S.next p
    else { S' with sent := S.sent ++ [⟨S.next, rep, ownerM S p, p⟩] }
def landM (S : Cl) (k : Nat) : Cl := { S with sent := S.sent.take k ++ S.sent.drop (k + 1) }
def deliverM (S : Cl) (k : Nat) : Cl := match S.sent[k]? with | some s => pieceM (landM S k) s.seq s.p | none => S
def loseM (S : Cl) (k : Nat) : Cl := match S.sent[k]? with | some s => toldM (landM S k) s.seq 5 0 | none => S
def oldM (S : Cl) (e : Ent) : Bool := decide (S.life ≤ S.now - e.born)
def tickM (S : Cl) : Cl :=
  let S' := { S with now := S.now + 1 }
  { S' with evs := S.evs ++ ((List.range S.reps.toNat).flatMap (fun (o : Nat) => ((S.ents.filter (fun e => e.owner == (o : Int) && oldM S' e)).flatMap waitL).map (fun q => ⟨q.seq, 6, 0⟩))), ents := S.ents.filter (fun e => !oldM S' e) }

/-- The arrivals of which a cluster still has something: an event that is not yet taken, a way to go, a piece that waits. -/
def seqsM (S : Cl) : List Nat := S.evs.map (·.seq) ++ (S.sent.map (·.seq) ++ S.ents.flatMap (fun e => (waitL e).map (·.seq)))

theorem seqs_told (S : Cl) (seq : Nat) (f w : Int) : (seqsM (toldM S seq f w)).Perm (seq :: seqsM S) := by
  unfold seqsM toldM
  simp only [List.map_append, List.map_cons, List.map_nil, List.append_assoc]
  exact List.perm_middle
theorem wait_forgot (l : List Pc) : (l.map (fun q => { q with waits := false })).filter (fun q : Pc => q.waits) = [] := by
  induction l with
  | nil => rfl
  | cons a l ih => simp [ih]
theorem wait_taken (S : Cl) (e : Ent) (p : Pk) (n : Pc) : ((takenM S e p n).2.map (·.seq) ++ (waitL (takenM S e p n).1).map (·.seq)).Perm (n.seq :: (waitL e).map (·.seq)) := by
  unfold takenM
  cases hk : (e.known || decide (n.a = 0)) with
  | true =>
    simp only [if_true]
    unfold waitL
    simp only [List.filter_append, wait_forgot]
    simp [Function.comp_def]
  | false =>
    simp only [Bool.false_eq_true, if_false]
    unfold waitL
    simp only [List.filter_append]
    simp

theorem split_at {α} (l : List α) (k : Nat) (e : α) (h : l[k]? = some e) : l = l.take k ++ e :: l.drop (k + 1) := by
  have hk : k < l.length := by
    by_cases hk : k < l.length
    · exact hk
    · rw [List.getElem?_eq_none (by omega)] at h; cases h
  rw [List.getElem?_eq_getElem hk, Option.some.injEq] at h
  rw [← h, List.getElem_cons_drop, List.take_append_drop]
theorem flat_gone {α β} (f : α → List β) (l : List α) (k : Nat) (e : α) (h : l[k]? = some e) : (l.flatMap f).Perm (f e ++ (l.take k ++ l.drop (k + 1)).flatMap f) := by
  conv => lhs; rw [split_at l k e h]
  simp only [List.flatMap_append, List.flatMap_cons]
  rw [← List.append_assoc, ← List.append_assoc]
  exact List.perm_append_comm.append_right _
theorem flat_set {α β} (f : α → List β) (l : List α) (k : Nat) (e r : α) (h : l[k]? = some e) : ((l.set k r).flatMap f).Perm (f r ++ (l.take k ++ l.drop (k + 1)).flatMap f) := by
  have hk : k < l.length := by
    by_cases hk : k < l.length
    · exact hk
    · rw [List.getElem?_eq_none (by omega)] at h; cases h
  have := flat_gone f (l.set k r) k r (by rw [List.getElem?_set_self hk])
  rw [List.take_set_of_le (Nat.le_refl _), List.drop_set_of_lt (by omega)] at this
  exact this

theorem perm5 (E R Sn X Wr We G : List Nat) (seq : Nat) (hX : X.Perm (Wr ++ G)) (hR : (R ++ Wr).Perm (seq :: We)) : ((E ++ R) ++ (Sn ++ X)).Perm (seq :: (E ++ (Sn ++ (We ++ G)))) := by
  rw [List.perm_iff_count] at *
  intro a
  have h1 := hX a
  have h2 := hR a
  simp only [List.count_append, List.count_cons] at *
  omega
/-- The waiting arrivals of an entry. -/
def waitS (e : Ent) : List Nat := (waitL e).map (·.seq)
theorem seqs_taken (S : Cl) (l : List Ent) (k : Nat) (e : Ent) (p : Pk) (seq : Nat) (hk : l[k]? = some e) (hl : (S.ents.flatMap waitS).Perm (l.flatMap waitS))
    (hw : wholeM (takenM S e p (pcM seq p)).1 = true → waitL (takenM S e p (pcM seq p)).1 = []) :
    (seqsM { S with evs := S.evs ++ (takenM S e p (pcM seq p)).2, ents := if wholeM (takenM S e p (pcM seq p)).1 then goneM l k else l.set k (takenM S e p (pcM seq p)).1 }).Perm (seq :: seqsM S) := by
  have hR := wait_taken S e p (pcM seq p)
  have hseq : (pcM seq p).seq = seq := rfl
  rw [hseq] at hR
  have hG := flat_gone waitS l k e hk
  have hold : (S.ents.flatMap waitS).Perm (waitS e ++ (l.take k ++ l.drop (k + 1)).flatMap waitS) := hl.trans hG
  have key : ((S.evs.map (·.seq) ++ (takenM S e p (pcM seq p)).2.map (·.seq)) ++ (S.sent.map (·.seq) ++ (if wholeM (takenM S e p (pcM seq p)).1 then goneM l k else l.set k (takenM S e p (pcM seq p)).1).flatMap waitS)).Perm (seq :: (S.evs.map (·.seq) ++ (S.sent.map (·.seq) ++ (waitS e ++ (l.take k ++ l.drop (k + 1)).flatMap waitS)))) := by
    refine perm5 _ _ _ _ (waitS (takenM S e p (pcM seq p)).1) _ _ _ ?_ hR
    split
    · rename_i hwh
      have : waitS (takenM S e p (pcM seq p)).1 = [] := by rw [waitS, hw hwh]; rfl
      rw [this]
      exact List.Perm.refl _
    · exact flat_set waitS l k e _ hk
  unfold seqsM
  simp only [List.map_append]
  refine key.trans ?_
  refine List.Perm.cons _ ?_
  exact List.Perm.append_left _ (List.Perm.append_left _ hold.symm)
theorem atM_some (l : List Ent) (p : Pk) (k : Nat) (h : atM l p = some k) : ∃ e, l[k]? = some e ∧ likeM e p = true := by
  have hm := List.mem_of_getLast? h
  rw [List.mem_filter] at hm
  obtain ⟨h1, h2⟩ := hm
  rw [List.mem_range] at h1
  rw [List.getElem?_eq_getElem h1] at h2
  exact ⟨l[k], List.getElem?_eq_getElem h1, h2⟩

/-- What is neither told nor on its way is held back: a piece comes to its owner. -/
theorem seqs_piece (S : Cl) (seq : Nat) (p : Pk)
    (hw : ∀ e, (e ∈ S.ents ∨ e.pcs = [] ∧ e.known = false) → wholeM (takenM S e p (pcM seq p)).1 = true → waitL (takenM S e p (pcM seq p)).1 = []) : (seqsM (pieceM S seq p)).Perm (seq :: seqsM S) := by
  unfold pieceM
  simp only
  split
  · exact seqs_told _ _ _ _
  · cases hi : atM S.ents p with
    | none =>
      have hl : (S.ents ++ [(⟨ownerM S p, p.src, p.dst, p.proto, p.id, S.now, [], false, 0⟩ : Ent)])[S.ents.length]? = some ⟨ownerM S p, p.src, p.dst, p.proto, p.id, S.now, [], false, 0⟩ := by
        rw [List.getElem?_append_right (Nat.le_refl _)]; simp
      simp only [Option.getD_none, hl]
      refine seqs_taken S _ _ _ p seq hl ?_ (hw _ (.inr ⟨rfl, rfl⟩))
      rw [List.flatMap_append]
      simp [waitS, waitL]
    | some k =>
      obtain ⟨e, he, _⟩ := atM_some _ _ _ hi
      simp only [Option.getD_some, he]
      exact seqs_taken S _ _ _ p seq he (List.Perm.refl _) (hw e (.inl (List.mem_of_getElem? he)))
theorem seqs_arrive (S : Cl) (rep : Int) (u : Option Pk)
    (hw : ∀ p e, u = some p → wholePk p = false → (e ∈ S.ents ∨ e.pcs = [] ∧ e.known = false) → wholeM (takenM { S with next := S.next + 1 } e p (pcM S.next p)).1 = true → waitL (takenM { S with next := S.next + 1 } e p (pcM S.next p)).1 = []) : (seqsM (arriveM S rep u)).Perm (S.next :: seqsM S) := by
  unfold arriveM
  simp only
  cases u with
  | none => exact seqs_told _ _ _ _
  | some p =>
    simp only
    cases hp : wholePk p with
    | true =>
      simp only [if_true]
      split
      · exact seqs_told _ _ _ _
      · exact seqs_told _ _ _ _
    | false =>
      simp only [Bool.false_eq_true, if_false]
      split
      · exact seqs_piece { S with next := S.next + 1 } S.next p (fun e he => hw p e rfl hp he)
      · unfold seqsM
        simp only [List.map_append, List.map_cons, List.map_nil, List.append_assoc]
        rw [List.perm_iff_count]
        intro a
        simp only [List.count_append, List.count_cons, List.count_nil]
        omega
theorem arrive_next (S : Cl) (rep : Int) (u : Option Pk) : (arriveM S rep u).next = S.next + 1 := by
  unfold arriveM pieceM toldM
  simp only
  repeat' split
  all_goals rfl
theorem seqs_land (S : Cl) (k : Nat) (s : Snt) (h : S.sent[k]? = some s) : (s.seq :: seqsM (landM S k)).Perm (seqsM S) := by
  unfold seqsM landM
  simp only
  have hs : (S.sent.map (·.seq)).Perm (s.seq :: ((S.sent.take k ++ S.sent.drop (k + 1)).map (·.seq))) := by
    conv => lhs; rw [split_at S.sent k s h]
    simp only [List.map_append, List.map_cons]
    exact List.perm_middle
  rw [List.perm_iff_count] at *
  intro a
  have := hs a
  simp only [List.count_append, List.count_cons] at *
  omega
theorem seqs_deliver (S : Cl) (k : Nat)
    (hw : ∀ s e, S.sent[k]? = some s → (e ∈ S.ents ∨ e.pcs = [] ∧ e.known = false) → wholeM (takenM (landM S k) e s.p (pcM s.seq s.p)).1 = true → waitL (takenM (landM S k) e s.p (pcM s.seq s.p)).1 = []) : (seqsM (deliverM S k)).Perm (seqsM S) := by
  unfold deliverM
  cases h : S.sent[k]? with
  | none => exact List.Perm.refl _
  | some s => exact (seqs_piece (landM S k) s.seq s.p (fun e he => hw s e h he)).trans (seqs_land S k s h)
theorem seqs_lose (S : Cl) (k : Nat) : (seqsM (loseM S k)).Perm (seqsM S) := by
  unfold loseM
  cases h : S.sent[k]? with
  | none => exact List.Perm.refl _
  | some s => exact (seqs_told _ _ _ _).trans (seqs_land S k s h)

end Go.Proofs.Ytajphdppmdoalaa

namespace Go.Proofs.Ytajphdppmdoalaa

theorem clash_false (q r : Pc) : clashM q r = false ↔ (q.b ≤ r.a ∨ r.b ≤ q.a) ∧ (q.ends = true → r.ends = false ∧ r.b ≤ q.b) ∧ (r.ends = true → q.ends = false ∧ q.b ≤ r.b) := by
  unfold clashM
  cases hq : q.ends <;> cases hr : r.ends <;> simp <;> omega
theorem clash_comm (q r : Pc) : clashM q r = clashM r q := by
  rw [Bool.eq_iff_iff, ← Bool.not_eq_false, ← Bool.not_eq_false, clash_false, clash_false]
  constructor
  · intro h h'; exact h ⟨h'.1.symm, h'.2.2, h'.2.1⟩
  · intro h h'; exact h ⟨h'.1.symm, h'.2.2, h'.2.1⟩
theorem clash_apart (q r : Pc) (h : clashM q r = false) : q.b ≤ r.a ∨ r.b ≤ q.a := ((clash_false q r).1 h).1
theorem clash_end (q r : Pc) (h : clashM q r = false) (hr : r.ends = true) : q.b ≤ r.b ∧ q.ends = false := ⟨(((clash_false q r).1 h).2.2 hr).2, (((clash_false q r).1 h).2.2 hr).1⟩

/-- How many of the points lo, lo + 1, .. (n of them) lie in pieces. -/
def covN (l : List Pc) (lo : Int) : Nat → Int
  | 0 => 0
  | n + 1 => covN l lo n + (l.countP (fun q => decide (q.a ≤ lo + n) && decide (lo + n < q.b)) : Nat)
theorem cov_cons (q : Pc) (l : List Pc) (lo : Int) (n : Nat) : covN (q :: l) lo n = covN [q] lo n + covN l lo n := by
  induction n with
  | zero => rfl
  | succ n ih =>
    simp only [covN, ih, List.countP_cons, List.countP_nil]
    omega
theorem cov_one (q : Pc) (lo : Int) (n : Nat) : covN [q] lo n = max 0 (min q.b (lo + n) - max q.a lo) := by
  induction n with
  | zero => simp [covN]; omega
  | succ n ih =>
    simp only [covN, ih, List.countP_cons, List.countP_nil]
    by_cases h : q.a ≤ lo + n ∧ lo + n < q.b
    · have : (decide (q.a ≤ lo + n) && decide (lo + n < q.b)) = true := by simp [h]
      rw [this]
      simp only [if_true]
      omega
    · have : (decide (q.a ≤ lo + n) && decide (lo + n < q.b)) = false := by
        rw [Bool.eq_false_iff]; intro h'; apply h; simpa using h'
      rw [this]
      simp only [Bool.false_eq_true, if_false]
      omega
theorem cov_all (l : List Pc) (lo : Int) (n : Nat) (h : ∀ q ∈ l, lo ≤ q.a ∧ q.a ≤ q.b ∧ q.b ≤ lo + n) : covN l lo n = bytesL l := by
  induction l with
  | nil =>
    clear h
    induction n with
    | zero => rfl
    | succ n ih => simp only [covN, ih, List.countP_nil]; simp [bytesL]
  | cons q l ih =>
    rw [cov_cons, cov_one, ih (fun r hr => h r (List.mem_cons_of_mem _ hr))]
    have := h q List.mem_cons_self
    simp only [bytesL, List.map_cons, List.sum_cons]
    omega
theorem one_at (l : List Pc) (x : Int) (h : l.Pairwise (fun q r => clashM q r = false)) : l.countP (fun q => decide (q.a ≤ x) && decide (x < q.b)) ≤ 1 := by
  induction l with
  | nil => simp
  | cons q l ih =>
    rw [List.pairwise_cons] at h
    rw [List.countP_cons]
    have ih := ih h.2
    split
    · rename_i hq
      have hz : l.countP (fun q => decide (q.a ≤ x) && decide (x < q.b)) = 0 := by
        rw [List.countP_eq_zero]
        intro r hr hx
        have := clash_apart q r (h.1 r hr)
        simp at hx hq
        omega
      omega
    · omega
theorem cov_le (l : List Pc) (lo : Int) (n : Nat) (h : l.Pairwise (fun q r => clashM q r = false)) : covN l lo n ≤ n := by
  induction n with
  | zero => simp [covN]
  | succ n ih =>
    have := one_at l (lo + n) h
    simp only [covN]
    omega
/-- Pieces that lie apart between lo and hi have no more bytes than that. -/
theorem bytes_le (l : List Pc) (lo hi : Int) (hlh : lo ≤ hi) (h : l.Pairwise (fun q r => clashM q r = false)) (hb : ∀ q ∈ l, lo ≤ q.a ∧ q.a ≤ q.b ∧ q.b ≤ hi) : bytesL l ≤ hi - lo := by
  have h1 := cov_all l lo (hi - lo).toNat (fun q hq => by have := hb q hq; omega)
  have h2 := cov_le l lo (hi - lo).toNat h
  omega

/-- An entry as it comes about. -/
structure EOK (e : Ent) : Prop where
  pos : ∀ q ∈ e.pcs, 0 ≤ q.a ∧ q.a < q.b
  apart : e.pcs.Pairwise (fun q r => clashM q r = false)
  known : e.known = true ↔ ∃ q ∈ e.pcs, q.a = 0
  waits : ∀ q ∈ e.pcs, q.waits = !e.known
theorem eok_new (owner src dst proto id born : Int) : EOK ⟨owner, src, dst, proto, id, born, [], false, 0⟩ := ⟨by simp, List.Pairwise.nil, by simp, by simp⟩

theorem wait_known (e : Ent) (h : EOK e) (hk : e.known = true) : waitL e = [] := by
  unfold waitL
  rw [List.filter_eq_nil_iff]
  intro q hq
  rw [h.waits q hq, hk]
  simp
/-- Without its first piece a datagram is never whole. -/
theorem whole_known (e : Ent) (h : EOK e) (hw : wholeM e = true) : e.known = true := by
  cases hk : e.known with
  | true => rfl
  | false =>
    exfalso
    have h1 : ∀ q ∈ e.pcs, 1 ≤ q.a := by
      intro q hq
      have := h.pos q hq
      by_cases h0 : q.a = 0
      · have := h.known.2 ⟨q, hq, h0⟩
        rw [hk] at this; cases this
      · omega
    unfold wholeM at hw
    rw [beq_iff_eq] at hw
    cases hl : (e.pcs.filter (·.ends)).getLast? with
    | none =>
      rw [hl] at hw
      simp only [Option.map_none, Option.getD_none] at hw
      have hb : 0 ≤ bytesL e.pcs := by
        have hp := h.pos
        revert hp
        generalize e.pcs = l
        intro hp
        induction l with
        | nil => simp [bytesL]
        | cons q l ih =>
          have := hp q List.mem_cons_self
          have := ih (fun r hr => hp r (List.mem_cons_of_mem _ hr))
          simp only [bytesL, List.map_cons, List.sum_cons] at *
          omega
      omega
    | some r =>
      rw [hl] at hw
      simp only [Option.map_some, Option.getD_some] at hw
      have hm := List.mem_of_getLast? hl
      rw [List.mem_filter] at hm
      have hall : ∀ q ∈ e.pcs, q.b ≤ r.b := by
        intro q hq
        by_cases hqr : q = r
        · subst hqr; omega
        · obtain ⟨i, hi, hie⟩ := List.getElem_of_mem hq
          obtain ⟨j, hj, hje⟩ := List.getElem_of_mem hm.1
          have hij : i ≠ j := by rintro rfl; exact hqr (hie.symm.trans hje)
          have hp := List.pairwise_iff_getElem.1 h.apart
          rcases Nat.lt_or_gt_of_ne hij with hlt | hlt
          · have := hp i j hi hj hlt
            rw [hie, hje] at this
            exact (clash_end q r this hm.2).1
          · have := hp j i hj hi hlt
            rw [hie, hje, clash_comm] at this
            exact (clash_end q r this hm.2).1
      have hr1 := h1 r hm.1
      have hr2 := h.pos r hm.1
      have := bytes_le e.pcs 1 r.b (by omega) h.apart (fun q hq => ⟨h1 q hq, by have := h.pos q hq; omega, hall q hq⟩)
      omega

/-- A piece is a packet that is no whole one: it has bytes. -/
structure PkOK (p : Pk) : Prop where
  off : 0 ≤ p.off
  len : 0 < p.dlen
theorem eok_taken (S : Cl) (e : Ent) (p : Pk) (seq : Nat) (h : EOK e) (hp : PkOK p) (hc : e.pcs.any (fun q => clashM q (pcM seq p)) = false) : EOK (takenM S e p (pcM seq p)).1 := by
  have hq : ∀ q : Pc, (if (e.known || decide ((pcM seq p).a = 0)) = true then { q with waits := false } else q).a = q.a ∧ (if (e.known || decide ((pcM seq p).a = 0)) = true then { q with waits := false } else q).b = q.b ∧ (if (e.known || decide ((pcM seq p).a = 0)) = true then { q with waits := false } else q).ends = q.ends := by
    intro q; split <;> exact ⟨rfl, rfl, rfl⟩
  have hcl : ∀ q r q' r' : Pc, q.a = q'.a → q.b = q'.b → q.ends = q'.ends → r.a = r'.a → r.b = r'.b → r.ends = r'.ends → clashM q r = clashM q' r' := by
    intro q r q' r' h1 h2 h3 h4 h5 h6
    unfold clashM
    rw [h1, h2, h3, h4, h5, h6]
  have hna : (pcM seq p).a = 4 * p.off := rfl
  have hnb : (pcM seq p).b = 4 * p.off + p.dlen := rfl
  refine ⟨?_, ?_, ?_, ?_⟩
  · intro q hq'
    simp only [takenM, List.mem_append, List.mem_map, List.mem_singleton] at hq'
    rcases hq' with ⟨r, hr, rfl⟩ | rfl
    · rw [(hq r).1, (hq r).2.1]; exact h.pos r hr
    · simp only [hna, hnb]
      have := hp.off
      have := hp.len
      omega
  · simp only [takenM]
    rw [List.pairwise_append]
    refine ⟨?_, List.pairwise_singleton _ _, ?_⟩
    · rw [List.pairwise_map]
      refine h.apart.imp ?_
      intro q r hqr
      rw [hcl _ _ q r (hq q).1 (hq q).2.1 (hq q).2.2 (hq r).1 (hq r).2.1 (hq r).2.2]
      exact hqr
    · intro q hq' r hr
      rw [List.mem_map] at hq'
      rw [List.mem_singleton] at hr
      obtain ⟨q0, hq0, rfl⟩ := hq'
      subst hr
      refine (hcl _ _ q0 (pcM seq p) (hq q0).1 (hq q0).2.1 (hq q0).2.2 rfl rfl rfl).trans ?_
      rw [List.any_eq_false] at hc
      have := hc q0 hq0
      simpa using this
  · simp only [takenM]
    refine (Bool.or_eq_true _ _ ▸ Iff.rfl : (e.known || decide ((pcM seq p).a = 0)) = true ↔ (e.known = true ∨ decide ((pcM seq p).a = 0) = true)).trans ?_
    rw [h.known, decide_eq_true_eq]
    constructor
    · rintro (⟨q, hq1, hq2⟩ | h0)
      · exact ⟨_, List.mem_append_left _ (List.mem_map_of_mem hq1), by rw [(hq q).1]; exact hq2⟩
      · exact ⟨_, List.mem_append_right _ (List.mem_singleton.2 rfl), h0⟩
    · rintro ⟨q, hq1, hq2⟩
      rw [List.mem_append, List.mem_map, List.mem_singleton] at hq1
      rcases hq1 with ⟨r, hr, rfl⟩ | rfl
      · left; exact ⟨r, hr, by rw [← (hq r).1]; exact hq2⟩
      · right; exact hq2
  · intro q hq'
    simp only [takenM] at hq' ⊢
    rw [List.mem_append, List.mem_map, List.mem_singleton] at hq'
    rcases hq' with ⟨r, hr, rfl⟩ | rfl
    · cases hk : (e.known || decide ((pcM seq p).a = 0)) with
      | true => simp
      | false =>
        simp only [Bool.false_eq_true, if_false]
        rw [h.waits r hr]
        rw [Bool.or_eq_false_iff] at hk
        rw [hk.1]
    · rfl

end Go.Proofs.Ytajphdppmdoalaa

namespace Go.Proofs.Ytajphdppmdoalaa

def fo (o : Int) (e : Ent) : List Pc := if e.owner == o then waitL e else []
def go1 (o : Int) (e : Ent) : List Ent := if e.owner == o then [e] else []
theorem flat_fo (o : Int) (l : List Ent) : (l.filter (·.owner == o)).flatMap waitL = l.flatMap (fo o) := by
  induction l with
  | nil => rfl
  | cons e l ih =>
    rw [List.filter_cons, List.flatMap_cons, fo]
    split
    · rw [List.flatMap_cons, ih]
    · rw [ih]; rfl
theorem flat_go (o : Int) (l : List Ent) : l.filter (·.owner == o) = l.flatMap (go1 o) := by
  induction l with
  | nil => rfl
  | cons e l ih =>
    rw [List.filter_cons, List.flatMap_cons, go1]
    split
    · rw [ih]; rfl
    · rw [ih]; rfl
theorem heldB_eq (S : Cl) (o : Int) : heldB S o = bytesL (S.ents.flatMap (fo o)) := by rw [heldB, entsM, flat_fo]
theorem heldN_eq (S : Cl) (o : Int) : heldN S o = (S.ents.flatMap (fo o)).length := by rw [heldN, entsM, flat_fo]
theorem entsM_eq (S : Cl) (o : Int) : (entsM S o).length = (S.ents.flatMap (go1 o)).length := by rw [entsM, flat_go]
theorem bytes_perm {l m : List Pc} (h : l.Perm m) : bytesL l = bytesL m := by
  unfold bytesL
  induction h with
  | nil => rfl
  | cons x _ ih => simp only [List.map_cons, List.sum_cons, ih]
  | swap x y l => simp only [List.map_cons, List.sum_cons]; omega
  | trans _ _ h1 h2 => exact h1.trans h2
theorem bytes_append (l m : List Pc) : bytesL (l ++ m) = bytesL l + bytesL m := by simp [bytesL]
theorem bytes_pos (l : List Pc) (h : ∀ q ∈ l, 0 ≤ q.a ∧ q.a < q.b) : 0 ≤ bytesL l := by
  induction l with
  | nil => simp [bytesL]
  | cons q l ih =>
    have := h q List.mem_cons_self
    have := ih (fun r hr => h r (List.mem_cons_of_mem _ hr))
    simp only [bytesL, List.map_cons, List.sum_cons] at *
    omega
theorem wait_pos (e : Ent) (h : EOK e) : 0 ≤ bytesL (waitL e) := bytes_pos _ (fun q hq => h.pos q (List.mem_filter.1 hq).1)

/-- A cluster as it comes about. -/
structure COK (S : Cl) : Prop where
  reps : 1 ≤ S.reps
  ents : ∀ e ∈ S.ents, EOK e ∧ e.owner = dgH e.src e.dst e.proto e.id % S.reps
  sent : ∀ s ∈ S.sent, PkOK s.p
  few : ∀ o, (entsM S o).length ≤ 3
  held : ∀ o, heldB S o ≤ 48
theorem cok_new (reps life : Int) (h : 1 ≤ reps) : COK (Cl.new reps life) :=
  ⟨h, fun e he => by simp [Cl.new] at he, fun s hs => by simp [Cl.new] at hs, fun o => by simp [Cl.new, entsM], fun o => by simp [Cl.new, heldB, entsM, bytesL]⟩
theorem cok_owner (S : Cl) (h : COK S) (e : Ent) (he : e ∈ S.ents) : 0 ≤ e.owner ∧ e.owner < S.reps := by
  rw [(h.ents e he).2]
  have := h.reps
  exact ⟨Int.emod_nonneg _ (by omega), Int.emod_lt_of_pos _ (by omega)⟩
theorem taken_owner (S : Cl) (e : Ent) (p : Pk) (n : Pc) : (takenM S e p n).1.owner = e.owner ∧ (takenM S e p n).1.src = e.src ∧ (takenM S e p n).1.dst = e.dst ∧ (takenM S e p n).1.proto = e.proto ∧ (takenM S e p n).1.id = e.id := ⟨rfl, rfl, rfl, rfl, rfl⟩
theorem wait_known' (e : Ent) (h : EOK e) (hk : e.known = false) : waitL e = e.pcs := by
  unfold waitL
  rw [List.filter_eq_self]
  intro q hq
  rw [h.waits q hq, hk]
  rfl
/-- The bytes that an entry holds back, behind an accepted piece. -/
theorem wait_bytes (S : Cl) (e : Ent) (p : Pk) (seq : Nat) : bytesL (waitL (takenM S e p (pcM seq p)).1) = if (e.known || decide ((pcM seq p).a = 0)) = true then 0 else bytesL (waitL e) + ((pcM seq p).b - (pcM seq p).a) := by
  unfold takenM waitL
  simp only [List.filter_append, bytes_append]
  split
  · rename_i hk
    simp only [wait_forgot, hk]
    simp [bytesL]
  · rename_i hk
    have hk' : (e.known || decide ((pcM seq p).a = 0)) = false := by simpa using hk
    simp only [hk']
    simp [bytesL]
theorem land_cok (S : Cl) (k : Nat) (h : COK S) : COK (landM S k) := by
  refine ⟨h.reps, h.ents, ?_, h.few, h.held⟩
  intro s hs
  refine h.sent s ?_
  simp only [landM, List.mem_append] at hs
  rcases hs with hs | hs
  · exact List.mem_of_mem_take hs
  · exact List.mem_of_mem_drop hs
theorem told_cok (S : Cl) (seq : Nat) (f w : Int) (h : COK S) : COK (toldM S seq f w) := ⟨h.reps, h.ents, h.sent, h.few, h.held⟩
theorem mem_gone {α} (l : List α) (k : Nat) (x : α) (h : x ∈ l.take k ++ l.drop (k + 1)) : x ∈ l := by
  rw [List.mem_append] at h
  rcases h with h | h
  · exact List.mem_of_mem_take h
  · exact List.mem_of_mem_drop h

theorem cok_taken (S : Cl) (l : List Ent) (k : Nat) (e : Ent) (p : Pk) (seq : Nat) (h : COK S) (hk : l[k]? = some e) (hp : PkOK p)
    (hl : ∀ x ∈ l, EOK x ∧ x.owner = dgH x.src x.dst x.proto x.id % S.reps) (hc : e.pcs.any (fun q => clashM q (pcM seq p)) = false)
    (hfew : ∀ o, (l.flatMap (go1 o)).length ≤ 3) (hheld : ∀ o, bytesL (l.flatMap (fo o)) ≤ 48)
    (hroom : 0 < (pcM seq p).a → e.known = false → bytesL (l.flatMap (fo e.owner)) + ((pcM seq p).b - (pcM seq p).a) ≤ 48) :
    COK { S with evs := S.evs ++ (takenM S e p (pcM seq p)).2, ents := if wholeM (takenM S e p (pcM seq p)).1 then goneM l k else l.set k (takenM S e p (pcM seq p)).1 } := by
  have he := hl e (List.mem_of_getElem? hk)
  have hr := eok_taken S e p seq he.1 hp hc
  have hwb := wait_bytes S e p seq
  have hwr := wait_pos _ hr
  have hwe := wait_pos _ he.1
  have hlen : k < l.length := by
    by_cases hlt : k < l.length
    · exact hlt
    · rw [List.getElem?_eq_none (by omega)] at hk; cases hk
  refine ⟨h.reps, ?_, h.sent, ?_, ?_⟩
  · intro x hx
    simp only at hx
    split at hx
    · exact hl x (mem_gone l k x hx)
    · rcases List.mem_or_eq_of_mem_set hx with hx | hx
      · exact hl x hx
      · subst hx
        exact ⟨hr, he.2⟩
  · intro o
    rw [entsM_eq]
    simp only
    have h1 := (flat_gone (go1 o) l k e hk).length_eq
    have h2 := (flat_set (go1 o) l k e (takenM S e p (pcM seq p)).1 hk).length_eq
    have h3 := hfew o
    have h4 : (go1 o (takenM S e p (pcM seq p)).1).length = (go1 o e).length := by
      unfold go1
      rw [(taken_owner S e p (pcM seq p)).1]
      split <;> rfl
    simp only [List.length_append] at h1 h2
    split
    · unfold goneM; simp only [List.flatMap_append, List.length_append] at *; omega
    · simp only [List.flatMap_append, List.length_append] at *; omega
  · intro o
    rw [heldB_eq]
    simp only
    have h1 := bytes_perm (flat_gone (fo o) l k e hk)
    have h2 := bytes_perm (flat_set (fo o) l k e (takenM S e p (pcM seq p)).1 hk)
    have h3 := hheld o
    rw [bytes_append] at h1 h2
    have hfe : fo o e = if e.owner == o then waitL e else [] := rfl
    have hfr : fo o (takenM S e p (pcM seq p)).1 = if e.owner == o then waitL (takenM S e p (pcM seq p)).1 else [] := rfl
    by_cases ho : e.owner = o
    · subst ho
      simp only [beq_self_eq_true, if_true] at hfe hfr
      rw [hfe] at h1
      rw [hfr] at h2
      split
      · unfold goneM; omega
      · rw [h2, hwb]
        split
        · omega
        · rename_i hkn
          have hkn' : (e.known || decide ((pcM seq p).a = 0)) = false := by simpa using hkn
          rw [Bool.or_eq_false_iff] at hkn'
          have ha : (pcM seq p).a ≠ 0 := by simpa using hkn'.2
          have ha0 : 0 ≤ (pcM seq p).a := by show 0 ≤ 4 * p.off; have := hp.off; omega
          have := hroom (by omega) hkn'.1
          omega
    · have hne : (e.owner == o) = false := by simpa using ho
      simp only [hne, Bool.false_eq_true, if_false] at hfe hfr
      rw [hfe] at h1
      rw [hfr] at h2
      have h0 : bytesL [] = 0 := rfl
      split
      · unfold goneM; omega
      · omega

theorem refused_zero (S : Cl) (e : Option Ent) (p : Pk) (n : Pc) (h : refusedM S e p n = 0) : (e = none → (entsM S (ownerM S p)).length < 3) ∧ (∀ x, e = some x → x.pcs.any (fun q => clashM q n) = false) ∧ (0 < n.a → (∀ x, e = some x → x.known = false) → heldB S (ownerM S p) + n.b - n.a ≤ 48) := by
  unfold refusedM at h
  split at h
  · omega
  split at h
  · omega
  rename_i h1 h2
  split at h
  · omega
  rename_i h3
  split at h
  · omega
  rename_i h4
  refine ⟨?_, ?_, ?_⟩
  · rintro rfl
    simp at h2
    omega
  · rintro x rfl
    simpa using h3
  · intro ha hk
    have : (e.map (·.known)).getD false = false := by
      cases e with
      | none => rfl
      | some x => exact hk x rfl
    have h5 : ¬ (48 < heldB S (ownerM S p) + n.b - n.a) := fun hh => h4 ⟨ha, this, hh⟩
    omega
theorem like_owner (S : Cl) (e : Ent) (p : Pk) (h : likeM e p = true) : dgH e.src e.dst e.proto e.id % S.reps = ownerM S p := by
  unfold likeM at h
  simp only [Bool.and_eq_true, beq_iff_eq] at h
  unfold ownerM
  rw [h.1.1.1, h.1.1.2, h.1.2, h.2]

/-- A piece comes to its owner: the cluster is again as it comes about, and no arrival is lost or told twice. -/
theorem piece_cok (S : Cl) (seq : Nat) (p : Pk) (h : COK S) (hp : PkOK p) : COK (pieceM S seq p) ∧ (seqsM (pieceM S seq p)).Perm (seq :: seqsM S) := by
  unfold pieceM
  simp only
  split
  · exact ⟨told_cok _ _ _ _ h, seqs_told _ _ _ _⟩
  · rename_i hf
    have hf : refusedM S ((atM S.ents p).bind (S.ents[·]?)) p (pcM seq p) = 0 := by simpa using hf
    cases hi : atM S.ents p with
    | none =>
      rw [hi] at hf
      obtain ⟨f1, _, f3⟩ := refused_zero _ _ _ _ hf
      have hl : (S.ents ++ [(⟨ownerM S p, p.src, p.dst, p.proto, p.id, S.now, [], false, 0⟩ : Ent)])[S.ents.length]? = some ⟨ownerM S p, p.src, p.dst, p.proto, p.id, S.now, [], false, 0⟩ := by
        rw [List.getElem?_append_right (Nat.le_refl _)]; simp
      simp only [Option.getD_none, hl]
      have hnew := eok_new (ownerM S p) p.src p.dst p.proto p.id S.now
      have hfw : ∀ o, (S.ents ++ [(⟨ownerM S p, p.src, p.dst, p.proto, p.id, S.now, [], false, 0⟩ : Ent)]).flatMap (fo o) = S.ents.flatMap (fo o) := by
        intro o
        rw [List.flatMap_append]
        have : fo o (⟨ownerM S p, p.src, p.dst, p.proto, p.id, S.now, [], false, 0⟩ : Ent) = [] := by unfold fo waitL; split <;> rfl
        simp [this]
      have hr := eok_taken S _ p seq hnew hp rfl
      refine ⟨cok_taken S _ _ _ p seq h hl hp ?_ rfl ?_ ?_ ?_, seqs_taken S _ _ _ p seq hl ?_ (fun hw => wait_known _ hr (whole_known _ hr hw))⟩
      · intro x hx
        rw [List.mem_append, List.mem_singleton] at hx
        rcases hx with hx | rfl
        · exact h.ents x hx
        · exact ⟨hnew, rfl⟩
      · intro o
        have h1 := h.few o
        rw [entsM_eq] at h1
        rw [List.flatMap_append, List.length_append]
        have e1 : ([(⟨ownerM S p, p.src, p.dst, p.proto, p.id, S.now, [], false, 0⟩ : Ent)].flatMap (go1 o)).length = if (ownerM S p == o) then 1 else 0 := by
          rw [List.flatMap_cons, List.flatMap_nil, List.append_nil, go1]
          simp only
          split <;> rfl
        rw [e1]
        by_cases ho : ownerM S p = o
        · subst ho
          have h2 := f1 rfl
          rw [entsM_eq] at h2
          rw [if_pos (beq_self_eq_true _)]
          omega
        · rw [if_neg (by simpa using ho)]
          omega
      · intro o
        rw [hfw, ← heldB_eq]
        exact h.held o
      · intro ha _
        rw [hfw, ← heldB_eq]
        have := f3 ha (by intro x hx; cases hx)
        show heldB S (ownerM S p) + _ ≤ 48
        omega
      · rw [List.flatMap_append]
        simp [waitS, waitL]
    | some k =>
      obtain ⟨e, he, hlk⟩ := atM_some _ _ _ hi
      rw [hi] at hf
      simp only [Option.bind_some, he] at hf
      obtain ⟨_, f2, f3⟩ := refused_zero _ _ _ _ hf
      have hem := List.mem_of_getElem? he
      have heo := h.ents e hem
      simp only [Option.getD_some, he]
      have hr := eok_taken S _ p seq heo.1 hp (f2 e rfl)
      refine ⟨cok_taken S _ _ _ p seq h he hp h.ents (f2 e rfl) ?_ ?_ ?_, seqs_taken S _ _ _ p seq he (List.Perm.refl _) (fun hw => wait_known _ hr (whole_known _ hr hw))⟩
      · intro o; rw [← entsM_eq]; exact h.few o
      · intro o; rw [← heldB_eq]; exact h.held o
      · intro ha hkn
        have := f3 ha (by intro x hx; cases hx; exact hkn)
        rw [← heldB_eq, heo.2, like_owner S e p hlk]
        omega

end Go.Proofs.Ytajphdppmdoalaa

namespace Go.Proofs.Ytajphdppmdoalaa

def backM (S : Cl) (T : List Int) : Cl := { S with slots := T }
def takeM (S : Cl) : Cl := { S with evs := [] }
theorem back_cok (S : Cl) (T : List Int) (h : COK S) : COK (backM S T) := ⟨h.reps, h.ents, h.sent, h.few, h.held⟩
theorem take_cok (S : Cl) (h : COK S) : COK (takeM S) := ⟨h.reps, h.ents, h.sent, h.few, h.held⟩
theorem next_cok (S : Cl) (h : COK S) : COK { S with next := S.next + 1 } := ⟨h.reps, h.ents, h.sent, h.few, h.held⟩
theorem arrive_cok (S : Cl) (rep : Int) (u : Option Pk) (h : COK S) (hu : ∀ p, u = some p → wholePk p = false → PkOK p) : COK (arriveM S rep u) ∧ (seqsM (arriveM S rep u)).Perm (S.next :: seqsM S) := by
  have hn := next_cok S h
  unfold arriveM
  simp only
  cases u with
  | none => exact ⟨told_cok _ _ _ _ hn, seqs_told _ _ _ _⟩
  | some p =>
    simp only
    cases hp : wholePk p with
    | true =>
      simp only [if_true]
      split
      · exact ⟨told_cok _ _ _ _ hn, seqs_told _ _ _ _⟩
      · exact ⟨told_cok _ _ _ _ hn, seqs_told _ _ _ _⟩
    | false =>
      have hpk := hu p rfl hp
      simp only [Bool.false_eq_true, if_false]
      split
      · exact piece_cok { S with next := S.next + 1 } S.next p hn hpk
      · refine ⟨⟨h.reps, h.ents, ?_, h.few, h.held⟩, ?_⟩
        · intro s hs
          rw [List.mem_append, List.mem_singleton] at hs
          rcases hs with hs | rfl
          · exact h.sent s hs
          · exact hpk
        · unfold seqsM
          simp only [List.map_append, List.map_cons, List.map_nil]
          rw [List.perm_iff_count]
          intro a
          simp only [List.count_append, List.count_cons, List.count_nil]
          omega
theorem deliver_cok (S : Cl) (k : Nat) (h : COK S) : COK (deliverM S k) ∧ (seqsM (deliverM S k)).Perm (seqsM S) := by
  unfold deliverM
  cases hk : S.sent[k]? with
  | none => exact ⟨h, List.Perm.refl _⟩
  | some s =>
    have := piece_cok (landM S k) s.seq s.p (land_cok S k h) (h.sent s (List.mem_of_getElem? hk))
    exact ⟨this.1, this.2.trans (seqs_land S k s hk)⟩
theorem lose_cok (S : Cl) (k : Nat) (h : COK S) : COK (loseM S k) ∧ (seqsM (loseM S k)).Perm (seqsM S) := by
  unfold loseM
  cases hk : S.sent[k]? with
  | none => exact ⟨h, List.Perm.refl _⟩
  | some s => exact ⟨told_cok _ _ _ _ (land_cok S k h), (seqs_told _ _ _ _).trans (seqs_land S k s hk)⟩

theorem piece_next (S : Cl) (seq : Nat) (p : Pk) : (pieceM S seq p).next = S.next := by
  unfold pieceM toldM
  simp only
  repeat' split
  all_goals rfl
theorem deliver_next (S : Cl) (k : Nat) : (deliverM S k).next = S.next := by
  unfold deliverM
  split
  · rw [piece_next]; rfl
  · rfl
theorem lose_next (S : Cl) (k : Nat) : (loseM S k).next = S.next := by
  unfold loseM
  split <;> rfl

/-- Sorting entries by their owners: nothing is lost where each has an owner below n. -/
theorem by_owner {β} [BEq β] [LawfulBEq β] (f : Ent → List β) (l : List Ent) (n : Nat) (h : ∀ e ∈ l, 0 ≤ e.owner ∧ e.owner < n) : ((List.range n).flatMap (fun (o : Nat) => (l.filter (fun e => e.owner == (o : Int))).flatMap f)).Perm (l.flatMap f) := by
  rw [List.perm_iff_count]
  intro a
  induction l with
  | nil =>
    have hz : ∀ m : List Nat, m.flatMap (fun (o : Nat) => (([] : List Ent).filter (fun e => e.owner == (o : Int))).flatMap f) = [] := by
      intro m
      induction m with
      | nil => rfl
      | cons x m ih => rw [List.flatMap_cons, ih]; rfl
    rw [hz]
    rfl
  | cons e l ih =>
    have ih := ih (fun x hx => h x (List.mem_cons_of_mem _ hx))
    have he := h e List.mem_cons_self
    rw [List.flatMap_cons, List.count_append, ← ih]
    have key : ∀ m : Nat, ((List.range m).flatMap (fun (o : Nat) => ((e :: l).filter (fun e => e.owner == (o : Int))).flatMap f)).count a = (if e.owner < m then (f e).count a else 0) + ((List.range m).flatMap (fun (o : Nat) => (l.filter (fun e => e.owner == (o : Int))).flatMap f)).count a := by
      intro m
      induction m with
      | zero =>
        rw [if_neg (by omega)]
        rfl
      | succ m ihm =>
        rw [List.range_succ, List.flatMap_append, List.flatMap_append, List.count_append, List.count_append, ihm]
        simp only [List.flatMap_cons, List.flatMap_nil, List.append_nil, List.filter_cons]
        by_cases hm : e.owner = (m : Int)
        · have hc : (e.owner == (m : Int)) = true := by simpa using hm
          have h1 : ¬ e.owner < (m : Int) := by omega
          have h2 : e.owner < ((m + 1 : Nat) : Int) := by omega
          simp only [hc, h1, h2, if_true, if_false, List.flatMap_cons, List.count_append]
          omega
        · have hc : (e.owner == (m : Int)) = false := by simpa using hm
          by_cases hlt : e.owner < (m : Int)
          · have h2 : e.owner < ((m + 1 : Nat) : Int) := by omega
            simp only [hc, hlt, h2, if_true, Bool.false_eq_true, if_false]
            omega
          · have h2 : ¬ e.owner < ((m + 1 : Nat) : Int) := by omega
            simp only [hc, hlt, h2, Bool.false_eq_true, if_false]
            omega
    rw [key n, if_pos he.2]
theorem filter_parts {α β} (f : α → List β) (c : α → Bool) (l : List α) : ((l.filter c).flatMap f ++ (l.filter (fun x => !c x)).flatMap f).Perm (l.flatMap f) := by
  induction l with
  | nil => exact List.Perm.refl _
  | cons x l ih =>
    rw [List.flatMap_cons, List.filter_cons, List.filter_cons]
    cases c x with
    | true =>
      simp only [if_true, Bool.not_true, Bool.false_eq_true, if_false, List.flatMap_cons, List.append_assoc]
      exact List.Perm.append_left _ ih
    | false =>
      simp only [if_true, Bool.not_false, Bool.false_eq_true, if_false, List.flatMap_cons]
      refine List.Perm.trans ?_ (List.Perm.append_left _ ih)
      rw [← List.append_assoc, ← List.append_assoc]
      exact List.perm_append_comm.append_right _
theorem tick_cok (S : Cl) (h : COK S) : COK (tickM S) ∧ (seqsM (tickM S)).Perm (seqsM S) := by
  have hsub : ∀ x ∈ (tickM S).ents, x ∈ S.ents := fun x hx => (List.mem_filter.1 hx).1
  constructor
  · refine ⟨h.reps, fun e he => h.ents e (hsub e he), h.sent, ?_, ?_⟩
    · intro o
      refine Nat.le_trans ?_ (h.few o)
      unfold entsM tickM
      simp only [List.filter_filter]
      refine List.Sublist.length_le ?_
      rw [← List.filter_filter]
      rw [List.filter_filter, show (fun a : Ent => (a.owner == o && !oldM { S with now := S.now + 1 } a)) = (fun a : Ent => (!oldM { S with now := S.now + 1 } a && a.owner == o)) from funext (fun a => Bool.and_comm _ _), ← List.filter_filter]
      exact List.filter_sublist
    · intro o
      have hp := bytes_perm (filter_parts (fo o) (fun e => oldM { S with now := S.now + 1 } e) S.ents)
      rw [bytes_append] at hp
      have h1 := h.held o
      rw [heldB_eq] at h1 ⊢
      have h2 : 0 ≤ bytesL ((S.ents.filter (fun e => oldM { S with now := S.now + 1 } e)).flatMap (fo o)) := by
        refine bytes_pos _ (fun q hq => ?_)
        rw [List.mem_flatMap] at hq
        obtain ⟨e, he, hq⟩ := hq
        have hm := (List.mem_filter.1 he).1
        unfold fo at hq
        split at hq
        · exact (h.ents e hm).1.pos q (List.mem_filter.1 hq).1
        · cases hq
      show bytesL ((S.ents.filter (fun e => !oldM { S with now := S.now + 1 } e)).flatMap (fo o)) ≤ 48
      omega
  · have h1 := by_owner waitS (S.ents.filter (fun e => oldM { S with now := S.now + 1 } e)) S.reps.toNat (fun e he => by
      have := cok_owner S h e (List.mem_filter.1 he).1
      omega)
    have h2 := filter_parts waitS (fun e => oldM { S with now := S.now + 1 } e) S.ents
    have h3 : ((List.range S.reps.toNat).flatMap (fun (o : Nat) => ((S.ents.filter (fun e => e.owner == (o : Int) && oldM { S with now := S.now + 1 } e)).flatMap waitL).map (fun q => (⟨q.seq, 6, 0⟩ : Ev)))).map (·.seq) = (List.range S.reps.toNat).flatMap (fun (o : Nat) => ((S.ents.filter (fun e => oldM { S with now := S.now + 1 } e)).filter (fun e => e.owner == (o : Int))).flatMap waitS) := by
      rw [List.map_flatMap]
      congr 1
      funext o
      rw [List.filter_filter, List.map_map, List.map_flatMap]
      rfl
    unfold seqsM tickM
    simp only [List.map_append]
    rw [h3]
    rw [List.perm_iff_count] at h1 h2 ⊢
    intro a
    have e1 := h1 a
    have e2 := h2 a
    simp only [List.count_append] at e2 ⊢
    show _ + (_ + List.count a (List.flatMap waitS _)) = _ + (_ + List.count a (List.flatMap waitS _))
    omega

/-- Each arrival is told once at most; what is not told is on its way or waits. -/
structure Acc (told : List Nat) (S : Cl) : Prop where
  ok : COK S
  all : (told ++ seqsM S).Perm (List.range S.next)
theorem acc_new (reps life : Int) (h : 1 ≤ reps) : Acc [] (Cl.new reps life) := ⟨cok_new reps life h, by simp [Cl.new, seqsM]⟩
theorem acc_arrive (told : List Nat) (S : Cl) (rep : Int) (u : Option Pk) (h : Acc told S) (hu : ∀ p, u = some p → wholePk p = false → PkOK p) : Acc told (arriveM S rep u) := by
  obtain ⟨h1, h2⟩ := arrive_cok S rep u h.ok hu
  refine ⟨h1, ?_⟩
  rw [arrive_next, List.range_succ]
  have h3 := h.all
  rw [List.perm_iff_count] at *
  intro a
  have := h2 a
  have := h3 a
  simp only [List.count_append, List.count_cons, List.count_nil] at *
  omega
theorem acc_same (told : List Nat) (S S' : Cl) (h : Acc told S) (hc : COK S') (hp : (seqsM S').Perm (seqsM S)) (hn : S'.next = S.next) : Acc told S' :=
  ⟨hc, by rw [hn]; exact (List.Perm.append_left _ hp).trans h.all⟩
theorem acc_deliver (told : List Nat) (S : Cl) (k : Nat) (h : Acc told S) : Acc told (deliverM S k) := acc_same told S _ h (deliver_cok S k h.ok).1 (deliver_cok S k h.ok).2 (deliver_next S k)
theorem acc_lose (told : List Nat) (S : Cl) (k : Nat) (h : Acc told S) : Acc told (loseM S k) := acc_same told S _ h (lose_cok S k h.ok).1 (lose_cok S k h.ok).2 (lose_next S k)
theorem acc_tick (told : List Nat) (S : Cl) (h : Acc told S) : Acc told (tickM S) := acc_same told S _ h (tick_cok S h.ok).1 (tick_cok S h.ok).2 rfl
theorem acc_back (told : List Nat) (S : Cl) (T : List Int) (h : Acc told S) : Acc told (backM S T) := acc_same told S _ h (back_cok S T h.ok) (List.Perm.refl _) rfl
theorem acc_take (told : List Nat) (S : Cl) (h : Acc told S) : Acc (told ++ S.evs.map (·.seq)) (takeM S) := by
  refine ⟨take_cok S h.ok, ?_⟩
  have := h.all
  unfold seqsM takeM at *
  simpa using this
/-- What is taken was not told before, and is an arrival. -/
theorem acc_fresh (told : List Nat) (S : Cl) (h : Acc told S) : (told ++ S.evs.map (·.seq)).Nodup ∧ ∀ s ∈ S.evs.map (·.seq), s < S.next := by
  have hn := h.all.nodup_iff.2 List.nodup_range
  unfold seqsM at hn
  rw [← List.append_assoc] at hn
  refine ⟨(List.nodup_append.1 hn).1, ?_⟩
  intro s hs
  have hm : s ∈ told ++ seqsM S := List.mem_append_right _ (List.mem_append_left _ hs)
  exact List.mem_range.1 (h.all.mem_iff.1 hm)
/-- How many there are. -/
theorem acc_count (told : List Nat) (S : Cl) (h : Acc told S) : S.next = told.length + S.evs.length + S.sent.length + ((List.range S.reps.toNat).map (fun (o : Nat) => heldN S (o : Int))).sum := by
  have h1 := h.all.length_eq
  have h2 := (by_owner waitS S.ents S.reps.toNat (fun e he => by have := cok_owner S h.ok e he; omega)).length_eq
  have h3 : ((List.range S.reps.toNat).flatMap (fun (o : Nat) => (S.ents.filter (fun e => e.owner == (o : Int))).flatMap waitS)).length = ((List.range S.reps.toNat).map (fun (o : Nat) => heldN S (o : Int))).sum := by
    rw [List.length_flatMap]
    congr 1
    refine List.map_congr_left (fun o _ => ?_)
    unfold heldN entsM waitS
    rw [← List.map_flatMap, List.length_map]
  unfold seqsM at h1
  simp only [List.length_append, List.length_map, List.length_range] at h1
  rw [← h3, h2]
  have h4 : (S.ents.flatMap (fun e => (waitL e).map (·.seq))).length = (S.ents.flatMap waitS).length := rfl
  omega

end Go.Proofs.Ytajphdppmdoalaa

namespace Go.Proofs.Ytajphdppmdoalaa
set_option linter.unusedVariables false

/-- A packet's numbers, in their bounds. -/
structure PkB (p : Pk) : Prop where
  src : 0 ≤ p.src ∧ p.src ≤ 65535
  dst : 0 ≤ p.dst ∧ p.dst ≤ 65535
  proto : 0 ≤ p.proto ∧ p.proto ≤ 255
  id : 0 ≤ p.id ∧ p.id ≤ 65535
  off : 0 ≤ p.off ∧ p.off ≤ 15
  sport : 0 ≤ p.sport ∧ p.sport ≤ 65535
  dport : 0 ≤ p.dport ∧ p.dport ≤ 65535
  dlen : p.dlen ≤ 32
/-- An entry's numbers, in their bounds. -/
structure EB (e : Ent) (now : Int) : Prop where
  src : 0 ≤ e.src ∧ e.src ≤ 65535
  dst : 0 ≤ e.dst ∧ e.dst ≤ 65535
  proto : 0 ≤ e.proto ∧ e.proto ≤ 255
  id : 0 ≤ e.id ∧ e.id ≤ 65535
  born : 0 ≤ e.born ∧ e.born ≤ now
  to : 0 ≤ e.to ∧ e.to ≤ 255
  pcs : ∀ q ∈ e.pcs, q.a ≤ 60 ∧ q.b ≤ 92 ∧ q.seq ≤ 2000000000000
/-- A cluster whose numbers are in their bounds. -/
structure Sml (S : Cl) : Prop where
  cok : COK S
  reps : S.reps ≤ 5
  life : 1 ≤ S.life ∧ S.life ≤ 20
  now : 0 ≤ S.now ∧ S.now ≤ 2000000000000
  next : S.next ≤ 2000000000000
  cnt : (seqsM S).length ≤ S.next
  ents : ∀ e ∈ S.ents, EB e S.now
  sent : ∀ s ∈ S.sent, PkB s.p ∧ s.seq ≤ 2000000000000
  slots : S.slots = [] ∨ S.slots.length = 31
  slot : ∀ z ∈ S.slots, 0 ≤ z ∧ z ≤ 255

theorem piece_same (S : Cl) (seq : Nat) (p : Pk) : (pieceM S seq p).reps = S.reps ∧ (pieceM S seq p).life = S.life ∧ (pieceM S seq p).now = S.now ∧ (pieceM S seq p).next = S.next ∧ (pieceM S seq p).slots = S.slots ∧ (pieceM S seq p).sent = S.sent := by
  unfold pieceM toldM
  simp only
  repeat' split
  all_goals exact ⟨rfl, rfl, rfl, rfl, rfl, rfl⟩
theorem chosen_bd (S : Cl) (p : Pk) (h : ∀ z ∈ S.slots, 0 ≤ z ∧ z ≤ 255) : 0 ≤ chosenM S p ∧ chosenM S p ≤ 255 := by
  unfold chosenM
  rw [List.getD_eq_getElem?_getD]
  cases hg : S.slots[(flH p.src p.dst p.proto p.sport p.dport).toNat % 31]? with
  | none => simp
  | some z => exact h z (List.mem_of_getElem? hg)
theorem pcM_bd (seq : Nat) (p : Pk) (hb : PkB p) (hq : seq ≤ 2000000000000) : (pcM seq p).a ≤ 60 ∧ (pcM seq p).b ≤ 92 ∧ (pcM seq p).seq ≤ 2000000000000 := by
  have := hb.off
  have := hb.dlen
  unfold pcM
  simp only
  omega
theorem taken_eb (S : Cl) (e : Ent) (p : Pk) (seq : Nat) (he : EB e S.now) (hs : ∀ z ∈ S.slots, 0 ≤ z ∧ z ≤ 255) (hb : PkB p) (hq : seq ≤ 2000000000000) : EB (takenM S e p (pcM seq p)).1 S.now := by
  refine ⟨he.src, he.dst, he.proto, he.id, he.born, ?_, ?_⟩
  · unfold takenM
    simp only
    split
    · exact chosen_bd S p hs
    · exact he.to
  · intro q hq'
    unfold takenM at hq'
    simp only [List.mem_append, List.mem_map, List.mem_singleton] at hq'
    rcases hq' with ⟨r, hr, rfl⟩ | rfl
    · have := he.pcs r hr
      split <;> exact this
    · exact pcM_bd seq p hb hq
theorem piece_eb (S : Cl) (seq : Nat) (p : Pk) (h : ∀ e ∈ S.ents, EB e S.now) (hn : 0 ≤ S.now) (hs : ∀ z ∈ S.slots, 0 ≤ z ∧ z ≤ 255) (hb : PkB p) (hq : seq ≤ 2000000000000) : ∀ e ∈ (pieceM S seq p).ents, EB e S.now := by
  unfold pieceM
  simp only
  split
  · exact h
  · rename_i hf
    have main : ∀ (l : List Ent) (k : Nat), (∀ e ∈ l, EB e S.now) → ∀ x ∈ (match l[k]? with
        | none => S
        | some e => { S with evs := S.evs ++ (takenM S e p (pcM seq p)).2, ents := if wholeM (takenM S e p (pcM seq p)).1 then goneM l k else l.set k (takenM S e p (pcM seq p)).1 }).ents, EB x S.now := by
      intro l k hl x hx
      split at hx
      · exact h x hx
      · rename_i e he
        simp only at hx
        split at hx
        · exact hl x (mem_gone _ _ _ hx)
        · rcases List.mem_or_eq_of_mem_set hx with h1 | rfl
          · exact hl x h1
          · exact taken_eb S e p seq (hl e (List.mem_of_getElem? he)) hs hb hq
    cases hi : atM S.ents p with
    | none =>
      refine main _ _ ?_
      intro e he
      simp only [List.mem_append, List.mem_singleton] at he
      rcases he with he | rfl
      · exact h e he
      · exact ⟨hb.src, hb.dst, hb.proto, hb.id, ⟨hn, Int.le_refl _⟩, ⟨Int.le_refl _, by simp only; omega⟩, by simp⟩
    | some k => exact main _ _ h
theorem sml_piece (S : Cl) (seq : Nat) (p : Pk) (h : Sml S) (hc : (seqsM S).length + 1 ≤ S.next) (hp : PkOK p) (hb : PkB p) (hq : seq ≤ 2000000000000) : Sml (pieceM S seq p) := by
  obtain ⟨h1, h2⟩ := piece_cok S seq p h.cok hp
  obtain ⟨e1, e2, e3, e4, e5, e6⟩ := piece_same S seq p
  refine ⟨h1, by rw [e1]; exact h.reps, by rw [e2]; exact h.life, by rw [e3]; exact h.now, by rw [e4]; exact h.next, ?_, ?_, by rw [e6]; exact h.sent, by rw [e5]; exact h.slots, by rw [e5]; exact h.slot⟩
  · rw [e4, h2.length_eq, List.length_cons]; exact hc
  · rw [e3]; exact piece_eb S seq p h.ents h.now.1 h.slot hb hq
theorem sml_new (reps life : Int) (h : 1 ≤ reps) (h5 : reps ≤ 5) (hl : 1 ≤ life ∧ life ≤ 20) : Sml (Cl.new reps life) :=
  ⟨cok_new reps life h, h5, hl, ⟨by simp [Cl.new], by simp [Cl.new]⟩, by simp [Cl.new], by simp [Cl.new, seqsM], by simp [Cl.new], by simp [Cl.new], .inl rfl, by simp [Cl.new]⟩
theorem sml_back (S : Cl) (T : List Int) (h : Sml S) (h1 : T = [] ∨ T.length = 31) (h2 : ∀ z ∈ T, 0 ≤ z ∧ z ≤ 255) : Sml (backM S T) :=
  ⟨back_cok S T h.cok, h.reps, h.life, h.now, h.next, h.cnt, h.ents, h.sent, h1, h2⟩
theorem sml_told (S : Cl) (seq : Nat) (f w : Int) (h : Sml S) (hc : (seqsM S).length + 1 ≤ S.next) : Sml (toldM S seq f w) :=
  ⟨told_cok S seq f w h.cok, h.reps, h.life, h.now, h.next, by rw [(seqs_told S seq f w).length_eq, List.length_cons]; exact hc, h.ents, h.sent, h.slots, h.slot⟩
theorem sml_next (S : Cl) (h : Sml S) (hn : S.next + 1 ≤ 2000000000000) : Sml { S with next := S.next + 1 } ∧ (seqsM { S with next := S.next + 1 }).length + 1 ≤ S.next + 1 := by
  have : seqsM { S with next := S.next + 1 } = seqsM S := rfl
  refine ⟨⟨next_cok S h.cok, h.reps, h.life, h.now, hn, ?_, h.ents, h.sent, h.slots, h.slot⟩, ?_⟩
  · rw [this]; have := h.cnt; simp only; omega
  · rw [this]; have := h.cnt; omega
theorem sml_arrive (S : Cl) (rep : Int) (u : Option Pk) (h : Sml S) (hn : S.next + 1 ≤ 2000000000000) (hu : ∀ p, u = some p → PkB p ∧ (wholePk p = false → PkOK p)) : Sml (arriveM S rep u) := by
  obtain ⟨h1, h2⟩ := sml_next S h hn
  unfold arriveM
  simp only
  cases u with
  | none => exact sml_told _ _ _ _ h1 h2
  | some p =>
    simp only
    obtain ⟨hb, hp⟩ := hu p rfl
    cases hw : wholePk p with
    | true =>
      simp only [if_true]
      split
      · exact sml_told _ _ _ _ h1 h2
      · exact sml_told _ _ _ _ h1 h2
    | false =>
      simp only [Bool.false_eq_true, if_false]
      split
      · exact sml_piece _ _ _ h1 h2 (hp hw) hb (by omega)
      · have hc := (arrive_cok S rep (some p) h.cok (fun q hq hq' => by cases hq; exact hp hq'))
        unfold arriveM at hc
        simp only [hw, Bool.false_eq_true, if_false] at hc
        rename_i hr
        simp only [hr, if_false] at hc
        refine ⟨hc.1, h.reps, h.life, h.now, hn, ?_, h.ents, ?_, h.slots, h.slot⟩
        · rw [hc.2.length_eq, List.length_cons]; exact Nat.succ_le_succ h.cnt
        · intro s hs
          simp only [List.mem_append, List.mem_singleton] at hs
          rcases hs with hs | rfl
          · exact h.sent s hs
          · exact ⟨hb, by simp only; omega⟩
theorem sml_land (S : Cl) (k : Nat) (s : Snt) (h : Sml S) (hk : S.sent[k]? = some s) : Sml (landM S k) ∧ (seqsM (landM S k)).length + 1 ≤ (landM S k).next := by
  have h1 := (seqs_land S k s hk).length_eq
  rw [List.length_cons] at h1
  have h2 := h.cnt
  have hn : (landM S k).next = S.next := rfl
  refine ⟨⟨land_cok S k h.cok, h.reps, h.life, h.now, h.next, by rw [hn]; omega, h.ents, ?_, h.slots, h.slot⟩, by rw [hn]; omega⟩
  intro s hs
  simp only [landM] at hs
  exact h.sent s (mem_gone _ _ _ hs)
theorem sml_deliver (S : Cl) (k : Nat) (h : Sml S) : Sml (deliverM S k) := by
  unfold deliverM
  cases hk : S.sent[k]? with
  | none => exact h
  | some s =>
    obtain ⟨h1, h2⟩ := sml_land S k s h hk
    have hm := List.mem_of_getElem? hk
    exact sml_piece _ _ _ h1 h2 (h.cok.sent s hm) (h.sent s hm).1 (h.sent s hm).2
theorem sml_lose (S : Cl) (k : Nat) (h : Sml S) : Sml (loseM S k) := by
  unfold loseM
  cases hk : S.sent[k]? with
  | none => exact h
  | some s =>
    obtain ⟨h1, h2⟩ := sml_land S k s h hk
    exact sml_told _ _ _ _ h1 h2
theorem sml_take (S : Cl) (h : Sml S) : Sml (takeM S) := by
  refine ⟨take_cok S h.cok, h.reps, h.life, h.now, h.next, ?_, h.ents, h.sent, h.slots, h.slot⟩
  have := h.cnt
  simp only [seqsM, takeM, List.map_nil, List.nil_append, List.length_append] at *
  omega
theorem sml_tick (S : Cl) (h : Sml S) (hn : S.now + 1 ≤ 2000000000000) : Sml (tickM S) := by
  obtain ⟨h1, h2⟩ := tick_cok S h.cok
  have hnow := h.now
  refine ⟨h1, h.reps, h.life, ⟨by simp only [tickM]; omega, by simp only [tickM]; exact hn⟩, h.next, by rw [h2.length_eq]; exact h.cnt, ?_, h.sent, h.slots, h.slot⟩
  intro e he
  have he' := h.ents e (List.mem_filter.1 he).1
  refine ⟨he'.src, he'.dst, he'.proto, he'.id, ⟨he'.born.1, ?_⟩, he'.to, he'.pcs⟩
  have := he'.born.2
  simp only [tickM]
  omega
/-- An entry has few pieces. -/
theorem pcs_few (e : Ent) (h : EOK e) (hb : ∀ q ∈ e.pcs, q.a ≤ 60 ∧ q.b ≤ 92 ∧ q.seq ≤ 2000000000000) : e.pcs.length ≤ 92 := by
  have h1 := bytes_le e.pcs 0 92 (by decide) h.apart (fun q hq => by have := h.pos q hq; have := hb q hq; omega)
  have h2 : ∀ l : List Pc, (∀ q ∈ l, 0 ≤ q.a ∧ q.a < q.b) → (l.length : Int) ≤ bytesL l := by
    intro l
    induction l with
    | nil => intro _; simp [bytesL]
    | cons q l ih =>
      intro hq
      have h3 := hq q List.mem_cons_self
      have h4 := ih (fun r hr => hq r (List.mem_cons_of_mem _ hr))
      simp only [bytesL, List.map_cons, List.sum_cons, List.length_cons] at *
      omega
  have := h2 e.pcs h.pos
  omega
theorem len_one (l : List Ent) : (l.flatMap (fun e => [e.src])).length = l.length := by
  induction l with
  | nil => rfl
  | cons e l ih => rw [List.flatMap_cons, List.length_append, ih, List.length_cons]; simp; omega
/-- A cluster has few entries. -/
theorem ents_few (S : Cl) (h : Sml S) : S.ents.length ≤ 15 := by
  have h5 := h.reps
  have h1 := h.cok.reps
  have hp := (by_owner (fun e => [e.src]) S.ents 5 (fun e he => by have := cok_owner S h.cok e he; omega)).length_eq
  have hl := len_one S.ents
  have hf : ∀ o : Int, ((S.ents.filter (fun e => e.owner == o)).flatMap (fun e => [e.src])).length ≤ 3 := by
    intro o
    rw [len_one]
    exact h.cok.few o
  have h0 := hf 0
  have h2 := hf 1
  have h3 := hf 2
  have h4 := hf 3
  have h6 := hf 4
  simp only [List.range, List.range.loop, List.flatMap_cons, List.flatMap_nil, List.length_append, List.length_nil] at hp
  have e0 : ((0 : Nat) : Int) = 0 := rfl
  have e1 : ((1 : Nat) : Int) = 1 := rfl
  have e2 : ((2 : Nat) : Int) = 2 := rfl
  have e3 : ((3 : Nat) : Int) = 3 := rfl
  have e4 : ((4 : Nat) : Int) = 4 := rfl
  rw [e0, e1, e2, e3, e4] at hp
  omega

end Go.Proofs.Ytajphdppmdoalaa

namespace Go.Proofs.Ytajphdppmdoalaa
set_option linter.unusedVariables false

/-- No two entries are of one datagram. -/
def Uq (l : List Ent) : Prop := l.Pairwise (fun e f => ¬ (e.src = f.src ∧ e.dst = f.dst ∧ e.proto = f.proto ∧ e.id = f.id))
/-- The entry behind an accepted piece, and what is told, with the backend b for a first piece. -/
def takenB (b : Int) (e : Ent) (n : Pc) : Ent × List Ev :=
  let known := e.known || decide (n.a = 0)
  let «to» := if n.a = 0 then b else e.to
  ({ e with known := known, «to» := to, pcs := e.pcs.map (fun q => if known then { q with waits := false } else q) ++ [{ n with waits := !known }] },
    if known then ⟨n.seq, 0, to⟩ :: (waitL e).map (fun q => ⟨q.seq, 0, to⟩) else [])
theorem taken_b (S : Cl) (e : Ent) (p : Pk) (n : Pc) : takenM S e p n = takenB (chosenM S p) e n := rfl
/-- Why a piece is not accepted by one replica with entries L, k being the place of its entry. -/
def refS (L : List Ent) (k : Nat) (n : Pc) (ok : Bool) : Int :=
  if n.a = 0 ∧ ok = false then 2
  else if L.length ≤ k ∧ 3 ≤ L.length then 4
  else if (L[k]?.map (fun e => e.pcs.any (fun q => clashM q n))).getD false then 3
  else if 0 < n.a ∧ (L[k]?.map (·.known)).getD false = false ∧ 48 < bytesL (L.flatMap waitL) + n.b - n.a then 4
  else 0
def newS (own now : Int) (p : Pk) : Ent := ⟨own, p.src, p.dst, p.proto, p.id, now, [], false, 0⟩
/-- The entries, with one that begins if there is none at k. -/
def begS (L : List Ent) (own now : Int) (p : Pk) (k : Nat) : List Ent := if k < L.length then L else L ++ [newS own now p]
/-- A piece comes to a replica with entries L. -/
def comeS (L : List Ent) (own now : Int) (seq : Nat) (p : Pk) (b : Int) (ok : Bool) : List Ent × List Ev :=
  let n := pcM seq p
  let k := L.findIdx (likeM · p)
  if refS L k n ok ≠ 0 then (L, [⟨seq, refS L k n ok, 0⟩])
  else
    let l := begS L own now p k
    match l[k]? with
    | none => (L, [])
    | some e => (if wholeM (takenB b e n).1 then goneM l k else l.set k (takenB b e n).1, (takenB b e n).2)

theorem find_mid {α} (f : α → Bool) (A B : List α) (e : α) (hA : ∀ a ∈ A, f a = false) (he : f e = true) : (A ++ e :: B).findIdx f = A.length := by
  induction A with
  | nil => simp [List.findIdx_cons, he]
  | cons a A ih =>
    rw [List.cons_append, List.findIdx_cons, hA a List.mem_cons_self, ih (fun x hx => hA x (List.mem_cons_of_mem _ hx))]
    simp
theorem find_none {α} (f : α → Bool) (A : List α) (hA : ∀ a ∈ A, f a = false) : A.findIdx f = A.length := by
  induction A with
  | nil => rfl
  | cons a A ih =>
    rw [List.findIdx_cons, hA a List.mem_cons_self, ih (fun x hx => hA x (List.mem_cons_of_mem _ hx))]
    simp
theorem atM_none (l : List Ent) (p : Pk) (h : atM l p = none) : ∀ e ∈ l, likeM e p = false := by
  intro e he
  obtain ⟨i, hi, rfl⟩ := List.getElem_of_mem he
  rw [atM, List.getLast?_eq_none_iff] at h
  have := List.filter_eq_nil_iff.1 h i (List.mem_range.2 hi)
  rw [List.getElem?_eq_getElem hi] at this
  simpa using this
theorem like_key (e : Ent) (p : Pk) (h : likeM e p = true) : e.src = p.src ∧ e.dst = p.dst ∧ e.proto = p.proto ∧ e.id = p.id := by
  simp only [likeM, Bool.and_eq_true, beq_iff_eq] at h
  exact ⟨h.1.1.1, h.1.1.2, h.1.2, h.2⟩
theorem like_not (e : Ent) (p : Pk) (h : ¬ (e.src = p.src ∧ e.dst = p.dst ∧ e.proto = p.proto ∧ e.id = p.id)) : likeM e p = false := by
  cases hl : likeM e p with
  | false => rfl
  | true => exact absurd (like_key e p hl) h
/-- Of no two entries that one is like a packet, the other ones are not. -/
theorem uq_mid (A B : List Ent) (e : Ent) (p : Pk) (h : Uq (A ++ e :: B)) (he : likeM e p = true) : ∀ a ∈ A, likeM a p = false := by
  intro a ha
  refine like_not a p ?_
  intro hk
  have := (List.pairwise_append.1 h).2.2 a ha e List.mem_cons_self
  have h2 := like_key e p he
  exact this ⟨hk.1.trans h2.1.symm, hk.2.1.trans h2.2.1.symm, hk.2.2.1.trans h2.2.2.1.symm, hk.2.2.2.trans h2.2.2.2.symm⟩
theorem gone_mid {α} (A B : List α) (e : α) : (A ++ e :: B).take A.length ++ (A ++ e :: B).drop (A.length + 1) = A ++ B := by
  rw [List.take_left', List.drop_append]
  · simp
  · rfl
theorem set_mid {α} (A B : List α) (e r : α) : (A ++ e :: B).set A.length r = A ++ r :: B := by
  rw [List.set_append_right _ _ (Nat.le_refl _)]
  simp
theorem get_mid {α} (A B : List α) (e : α) : (A ++ e :: B)[A.length]? = some e := by
  rw [List.getElem?_append_right (Nat.le_refl _)]
  simp
theorem taken_own (b : Int) (e : Ent) (n : Pc) : (takenB b e n).1.owner = e.owner := rfl

/-- What a piece does, seen by replicas. -/
theorem piece_store (S : Cl) (seq : Nat) (p : Pk) (h : COK S) (hu : Uq S.ents) :
    (pieceM S seq p).evs = S.evs ++ (comeS (entsM S (ownerM S p)) (ownerM S p) S.now seq p (chosenM S p) (!S.slots.isEmpty)).2 ∧
    entsM (pieceM S seq p) (ownerM S p) = (comeS (entsM S (ownerM S p)) (ownerM S p) S.now seq p (chosenM S p) (!S.slots.isEmpty)).1 ∧
    (∀ o, o ≠ ownerM S p → entsM (pieceM S seq p) o = entsM S o) ∧ Uq (pieceM S seq p).ents := by
  have hok : ∀ n : Pc, (n.a = 0 ∧ S.slots = []) ↔ (n.a = 0 ∧ (!S.slots.isEmpty) = false) := by intro n; simp
  cases hi : atM S.ents p with
  | none =>
    have hno := atM_none _ _ hi
    have hk : (entsM S (ownerM S p)).findIdx (likeM · p) = (entsM S (ownerM S p)).length := find_none _ _ (fun a ha => hno a (List.mem_filter.1 ha).1)
    have hr : refusedM S none p (pcM seq p) = refS (entsM S (ownerM S p)) (entsM S (ownerM S p)).length (pcM seq p) (!S.slots.isEmpty) := by
      unfold refusedM refS
      simp only [hok, Option.isNone_none, true_and, Nat.le_refl, Option.map_none, Option.getD_none, List.getElem?_eq_none (Nat.le_refl _)]
      rfl
    unfold pieceM comeS begS
    simp only [hi, Option.bind_none, hk, hr, Option.getD_none, Nat.lt_irrefl, if_false]
    split
    · refine ⟨rfl, rfl, fun _ _ => rfl, hu⟩
    · rw [get_mid (S.ents) [] _]
      have h2 := get_mid (entsM S (ownerM S p)) [] (newS (ownerM S p) S.now p)
      rw [h2]
      simp only [taken_b]
      have hall : ∀ o, entsM { S with ents := S.ents ++ [newS (ownerM S p) S.now p] } o = entsM S o ++ (if ownerM S p == o then [newS (ownerM S p) S.now p] else []) := by
        intro o
        simp only [entsM, List.filter_append, List.filter_cons, List.filter_nil]
        rfl
      have hnew : (⟨ownerM S p, p.src, p.dst, p.proto, p.id, S.now, [], false, 0⟩ : Ent) = newS (ownerM S p) S.now p := rfl
      rw [hnew]
      have hset : (S.ents ++ [newS (ownerM S p) S.now p]).set S.ents.length (takenB (chosenM S p) (newS (ownerM S p) S.now p) (pcM seq p)).1 = S.ents ++ [(takenB (chosenM S p) (newS (ownerM S p) S.now p) (pcM seq p)).1] := set_mid _ [] _ _
      have hset2 : (entsM S (ownerM S p) ++ [newS (ownerM S p) S.now p]).set (entsM S (ownerM S p)).length (takenB (chosenM S p) (newS (ownerM S p) S.now p) (pcM seq p)).1 = entsM S (ownerM S p) ++ [(takenB (chosenM S p) (newS (ownerM S p) S.now p) (pcM seq p)).1] := set_mid _ [] _ _
      have hg : goneM (S.ents ++ [newS (ownerM S p) S.now p]) S.ents.length = S.ents := by
        have := gone_mid S.ents [] (newS (ownerM S p) S.now p)
        rw [List.append_nil] at this
        exact this
      have hg2 : goneM (entsM S (ownerM S p) ++ [newS (ownerM S p) S.now p]) (entsM S (ownerM S p)).length = entsM S (ownerM S p) := by
        have := gone_mid (entsM S (ownerM S p)) [] (newS (ownerM S p) S.now p)
        rw [List.append_nil] at this
        exact this
      rw [hset, hset2, hg, hg2]
      have hown : (takenB (chosenM S p) (newS (ownerM S p) S.now p) (pcM seq p)).1.owner = ownerM S p := rfl
      refine ⟨rfl, ?_, ?_, ?_⟩
      · rcases (Bool.eq_false_or_eq_true (wholeM (takenB (chosenM S p) (newS (ownerM S p) S.now p) (pcM seq p)).1)).symm with hw | hw <;> simp only [hw, if_true, Bool.false_eq_true, if_false]
        · simp only [entsM, List.filter_append, List.filter_cons, List.filter_nil, hown, beq_self_eq_true, if_true]
        · rfl
      · intro o ho
        rcases (Bool.eq_false_or_eq_true (wholeM (takenB (chosenM S p) (newS (ownerM S p) S.now p) (pcM seq p)).1)).symm with hw | hw <;> simp only [hw, if_true, Bool.false_eq_true, if_false]
        · simp only [entsM, List.filter_append, List.filter_cons, List.filter_nil, hown, show (ownerM S p == o) = false from by simpa using fun x => ho x.symm]
          simp
        · rfl
      · rcases (Bool.eq_false_or_eq_true (wholeM (takenB (chosenM S p) (newS (ownerM S p) S.now p) (pcM seq p)).1)).symm with hw | hw <;> simp only [hw, if_true, Bool.false_eq_true, if_false]
        · refine List.pairwise_append.2 ⟨hu, by simp, ?_⟩
          intro a ha b hb
          simp only [List.mem_singleton] at hb
          subst hb
          intro hk2
          have := hno a ha
          rw [likeM, hk2.1, hk2.2.1, hk2.2.2.1, hk2.2.2.2] at this
          simp [takenB, newS] at this
        · exact hu
  | some i =>
    obtain ⟨e, he, hl⟩ := atM_some _ _ _ hi
    have hsp := split_at S.ents i e he
    have hown : e.owner = ownerM S p := by
      rw [(h.ents e (List.mem_of_getElem? he)).2]
      exact like_owner S e p hl
    have hA : S.ents.take i ++ e :: S.ents.drop (i + 1) = S.ents := hsp.symm
    have hlen : (S.ents.take i).length = i := by
      rw [List.length_take]
      have := (List.getElem?_eq_some_iff.1 he).1
      omega
    generalize S.ents.take i = A at hA hlen
    generalize S.ents.drop (i + 1) = B at hA
    have hf : ∀ (o : Int) (x : Ent), x.owner = ownerM S p → (A ++ x :: B).filter (·.owner == o) = if ownerM S p == o then A.filter (·.owner == o) ++ x :: B.filter (·.owner == o) else A.filter (·.owner == o) ++ B.filter (·.owner == o) := by
      intro o x hx
      rw [List.filter_append, List.filter_cons, hx]
      split <;> rfl
    have hE : entsM S (ownerM S p) = A.filter (·.owner == ownerM S p) ++ e :: B.filter (·.owner == ownerM S p) := by
      rw [entsM, ← hA, hf _ e hown]
      simp
    have huA : Uq (A ++ e :: B) := by rw [hA]; exact hu
    have hk : (entsM S (ownerM S p)).findIdx (likeM · p) = (A.filter (·.owner == ownerM S p)).length := by
      rw [hE]
      exact find_mid _ _ _ _ (fun a ha => uq_mid A B e p huA hl a (List.mem_filter.1 ha).1) hl
    have hg : (entsM S (ownerM S p))[(A.filter (·.owner == ownerM S p)).length]? = some e := by rw [hE]; exact get_mid _ _ _
    have hlt : (A.filter (·.owner == ownerM S p)).length < (entsM S (ownerM S p)).length := (List.getElem?_eq_some_iff.1 hg).1
    have hr : refusedM S (some e) p (pcM seq p) = refS (entsM S (ownerM S p)) (A.filter (·.owner == ownerM S p)).length (pcM seq p) (!S.slots.isEmpty) := by
      unfold refusedM refS
      simp only [hok, Option.isNone_some, Bool.false_eq_true, false_and, if_false, Option.map_some, Option.getD_some, hg, show ¬ ((entsM S (ownerM S p)).length ≤ (A.filter (·.owner == ownerM S p)).length) from by omega]
      rfl
    have h1 : (some i).bind (fun k => S.ents[k]?) = some e := he
    unfold pieceM comeS begS
    simp only [hi, h1, hk, hr, Option.getD_some, hlt, if_true, he, hg]
    split
    · exact ⟨rfl, rfl, fun _ _ => rfl, hu⟩
    · simp only [taken_b]
      have hown2 : (takenB (chosenM S p) e (pcM seq p)).1.owner = ownerM S p := hown
      have hset : S.ents.set i (takenB (chosenM S p) e (pcM seq p)).1 = A ++ (takenB (chosenM S p) e (pcM seq p)).1 :: B := by
        rw [← hA, ← hlen]; exact set_mid _ _ _ _
      have hgn : goneM S.ents i = A ++ B := by
        rw [goneM, ← hA, ← hlen]; exact gone_mid _ _ _
      have hset2 : (entsM S (ownerM S p)).set (A.filter (·.owner == ownerM S p)).length (takenB (chosenM S p) e (pcM seq p)).1 = A.filter (·.owner == ownerM S p) ++ (takenB (chosenM S p) e (pcM seq p)).1 :: B.filter (·.owner == ownerM S p) := by
        rw [hE]; exact set_mid _ _ _ _
      have hgn2 : goneM (entsM S (ownerM S p)) (A.filter (·.owner == ownerM S p)).length = A.filter (·.owner == ownerM S p) ++ B.filter (·.owner == ownerM S p) := by
        rw [goneM, hE]; exact gone_mid _ _ _
      rw [hset, hgn, hset2, hgn2]
      refine ⟨trivial, ?_, ?_, ?_⟩
      · rcases (Bool.eq_false_or_eq_true (wholeM (takenB (chosenM S p) e (pcM seq p)).1)).symm with hw | hw <;> simp only [hw, if_true, Bool.false_eq_true, if_false]
        · simp only [entsM]
          rw [hf _ _ hown2]
          simp
        · simp only [entsM, List.filter_append]
      · intro o ho
        have hno : (ownerM S p == o) = false := by simpa using fun x => ho x.symm
        have hSo : entsM S o = A.filter (·.owner == o) ++ B.filter (·.owner == o) := by
          rw [entsM, ← hA, hf _ e hown, hno]; simp
        rw [hSo]
        rcases (Bool.eq_false_or_eq_true (wholeM (takenB (chosenM S p) e (pcM seq p)).1)).symm with hw | hw <;> simp only [hw, if_true, Bool.false_eq_true, if_false]
        · simp only [entsM]
          rw [hf _ _ hown2, hno]
          simp
        · simp only [entsM, List.filter_append]
      · have h3 := List.pairwise_append.1 huA
        rcases (Bool.eq_false_or_eq_true (wholeM (takenB (chosenM S p) e (pcM seq p)).1)).symm with hw | hw <;> simp only [hw, if_true, Bool.false_eq_true, if_false]
        · refine List.pairwise_append.2 ⟨h3.1, List.pairwise_cons.2 ⟨?_, (List.pairwise_cons.1 h3.2.1).2⟩, ?_⟩
          · exact (List.pairwise_cons.1 h3.2.1).1
          · intro a ha b hb
            rcases List.mem_cons.1 hb with rfl | hb
            · exact h3.2.2 a ha e List.mem_cons_self
            · exact h3.2.2 a ha b (List.mem_cons_of_mem _ hb)
        · exact List.pairwise_append.2 ⟨h3.1, (List.pairwise_cons.1 h3.2.1).2, fun a ha b hb => h3.2.2 a ha b (List.mem_cons_of_mem _ hb)⟩
theorem uq_arrive (S : Cl) (rep : Int) (u : Option Pk) (h : COK S) (hu : Uq S.ents) : Uq (arriveM S rep u).ents := by
  unfold arriveM
  simp only
  cases u with
  | none => exact hu
  | some p =>
    simp only
    split
    · split <;> exact hu
    · split
      · exact (piece_store { S with next := S.next + 1 } S.next p (next_cok S h) hu).2.2.2
      · exact hu
theorem uq_deliver (S : Cl) (k : Nat) (h : COK S) (hu : Uq S.ents) : Uq (deliverM S k).ents := by
  unfold deliverM
  cases hs : S.sent[k]? with
  | none => exact hu
  | some s => exact (piece_store (landM S k) s.seq s.p (land_cok S k h) hu).2.2.2
theorem uq_lose (S : Cl) (k : Nat) (hu : Uq S.ents) : Uq (loseM S k).ents := by
  unfold loseM
  cases hs : S.sent[k]? with
  | none => exact hu
  | some s => exact hu
theorem uq_tick (S : Cl) (hu : Uq S.ents) : Uq (tickM S).ents := List.Pairwise.filter _ hu
/-- One replica behind a tick. -/
def tickS (L : List Ent) (life now : Int) : List Ent × List Ev := (L.filter (fun e => !decide (life ≤ now - e.born)), ((L.filter (fun e => decide (life ≤ now - e.born))).flatMap waitL).map (fun q => ⟨q.seq, 6, 0⟩))
theorem tick_store (S : Cl) : (tickM S).evs = S.evs ++ (List.range S.reps.toNat).flatMap (fun (o : Nat) => (tickS (entsM S o) S.life (S.now + 1)).2) ∧ ∀ o, entsM (tickM S) o = (tickS (entsM S o) S.life (S.now + 1)).1 := by
  constructor
  · unfold tickM tickS entsM
    simp only [List.filter_filter, oldM]
    congr 1
    congr 1
    funext o
    congr 2
    congr 1
    funext e
    rw [Bool.and_comm]
  · intro o
    unfold tickM tickS entsM
    simp only [List.filter_filter, oldM]
    congr 1
    funext e
    rw [Bool.and_comm]

end Go.Proofs.Ytajphdppmdoalaa

namespace Go.Proofs.Ytajphdppmdoalaa
open Go.RowKit

theorem hide {p : Prop} (h : p) : Hid p := h
theorem unhide {p : Prop} (h : Hid p) : p := h
/-- What is left of a sum of 16-bit words when carries go round. -/
def norm (t : Int) : Int := if t = 0 then 0 else (t - 1) % 65535 + 1
theorem norm_bd (t : Int) (_ : 0 ≤ t) : 0 ≤ norm t ∧ norm t ≤ 65535 := by unfold norm; split <;> omega
theorem norm_lo (t u : Int) (h : 0 ≤ t) (hu : 0 ≤ u) (hu2 : u ≤ 65535) (hs : norm t + u ≤ 65535) : norm t + u = norm (t + u) := by
  unfold norm at *; split at hs <;> split <;> omega
theorem norm_hi (t u : Int) (h : 0 ≤ t) (hu : 0 ≤ u) (hu2 : u ≤ 65535) (hs : 65535 < norm t + u) : norm t + u + -65535 = norm (t + u) := by
  unfold norm at *; split at hs <;> split <;> omega
/-- The sum of the first words of a head. -/
def tk (h0 h1 h2 h3 h4 h5 h6 h7 h8 h9 : Int) : Nat → Int
  | 0 => 0
  | 1 => h0 * 256 + h1
  | 2 => h0 * 256 + h1 + (h2 * 256 + h3)
  | 3 => h0 * 256 + h1 + (h2 * 256 + h3) + (h4 * 256 + h5)
  | 4 => h0 * 256 + h1 + (h2 * 256 + h3) + (h4 * 256 + h5) + (h6 * 256 + h7)
  | _ => h0 * 256 + h1 + (h2 * 256 + h3) + (h4 * 256 + h5) + (h6 * 256 + h7) + (h8 * 256 + h9)
def csum (h0 h1 h2 h3 h4 h5 h6 h7 h8 h9 : Int) : Int := 65535 - norm (tk h0 h1 h2 h3 h4 h5 h6 h7 h8 h9 5)
theorem or_word (a b : Int) (ha0 : 0 ≤ a) (ha : a ≤ 255) (hb0 : 0 ≤ b) (hb : b ≤ 255) : bits .or .u16 (a * 256) b = a * 256 + b := by
  rw [u16_or _ _ (by omega) (by omega) (by omega) (by omega)]
  obtain ⟨x, rfl⟩ := Int.eq_ofNat_of_zero_le ha0
  obtain ⟨y, rfl⟩ := Int.eq_ofNat_of_zero_le hb0
  have h1 : ((x : Int) * 256).toNat = 2 ^ 8 * x := by omega
  have h2 : ((y : Int)).toNat = y := by omega
  rw [h1, h2, ← Nat.two_pow_add_eq_or_of_lt (by omega) x]
  omega
theorem ret_int {k : IntKind} {a b : Int} (h : a = b) : Ending.returned (.int k a) = .returned (.int k b) := by rw [h]
theorem ret_bool {a b : Bool} (h : a = b) : Ending.returned (.bool a) = .returned (.bool b) := by rw [h]
/-- Is a packet well-formed? -/
def wfB (off : Int) (more : Bool) (sport dport : Int) (n : Nat) : Bool :=
  decide (off ≤ 15) && decide (n ≤ 32) && (!more || (decide (n ≠ 0) && decide (n % 4 = 0))) && (decide (off = 0) || (decide (n ≠ 0) && decide (sport = 0) && decide (dport = 0)))
def pk (c n : Int) : Int := if c < 0 then (-(c + 1)) % n else c % n
theorem pk_bd (c n : Int) (h : 1 ≤ n) : 0 ≤ pk c n ∧ pk c n < n := by
  unfold pk; split
  · exact ⟨Int.emod_nonneg _ (by omega), Int.emod_lt_of_pos _ (by omega)⟩
  · exact ⟨Int.emod_nonneg _ (by omega), Int.emod_lt_of_pos _ (by omega)⟩

def mk (more : Bool) : Int := if more then 17 else 16
def tl (off : Int) (n : Nat) : Int := if off = 0 then (n : Int) + 4 else n
theorem mk_bd (more : Bool) : 16 ≤ mk more ∧ mk more ≤ 17 := by unfold mk; split <;> omega
theorem tl_bd (off : Int) (n : Nat) : 0 ≤ tl off n ∧ tl off n ≤ n + 4 := by unfold tl; split <;> omega
/-- The checksum of a packet's head. -/
def cs (src dst proto id off : Int) (more : Bool) (n : Nat) : Int := csum (mk more) proto (src / 256) (src % 256) (dst / 256) (dst % 256) (id / 256) (id % 256) off (tl off n)
theorem csum_bd (h0 h1 h2 h3 h4 h5 h6 h7 h8 h9 : Int) (b0 : 0 ≤ h0 ∧ h0 ≤ 255) (b1 : 0 ≤ h1 ∧ h1 ≤ 255) (b2 : 0 ≤ h2 ∧ h2 ≤ 255) (b3 : 0 ≤ h3 ∧ h3 ≤ 255) (b4 : 0 ≤ h4 ∧ h4 ≤ 255) (b5 : 0 ≤ h5 ∧ h5 ≤ 255) (b6 : 0 ≤ h6 ∧ h6 ≤ 255) (b7 : 0 ≤ h7 ∧ h7 ≤ 255) (b8 : 0 ≤ h8 ∧ h8 ≤ 255) (b9 : 0 ≤ h9 ∧ h9 ≤ 255) : 0 ≤ csum h0 h1 h2 h3 h4 h5 h6 h7 h8 h9 ∧ csum h0 h1 h2 h3 h4 h5 h6 h7 h8 h9 ≤ 65535 := by
  unfold csum
  have := norm_bd (tk h0 h1 h2 h3 h4 h5 h6 h7 h8 h9 5) (by simp [tk]; omega)
  omega

/-- The bytes of a packet. -/
def hdL (src dst proto id off : Int) (more : Bool) (n : Nat) : List Int := [mk more, proto, src / 256, src % 256, dst / 256, dst % 256, id / 256, id % 256, off, tl off n, cs src dst proto id off more n / 256, cs src dst proto id off more n % 256]
def ptL (off sport dport : Int) : List Int := if off = 0 then [sport / 256, sport % 256, dport / 256, dport % 256] else []
def pkL (src dst proto id off : Int) (more : Bool) (sport dport : Int) (zs : List Int) : List Int := hdL src dst proto id off more zs.length ++ ptL off sport dport ++ zs
/-- The numbers zs lie behind an address (as bytes). -/
def Has (w : World) (ao : Option Addr) (zs : List Int) : Prop := (ao = none → zs = []) ∧ (zs ≠ [] → ∃ b o, ao = some ⟨b, o, none⟩ ∧ b < w.heap.size ∧ ∀ j, j < zs.length → w.cell? ⟨b, o + j, none⟩ = some (.int .u8 (zs.getD j 0)))
theorem Has.below {w w' : World} {ao : Option Addr} {zs : List Int} (h : Has w ao zs) (hb : Below w.heap.size w w') : Has w' ao zs := by
  refine ⟨h.1, fun hz => ?_⟩
  obtain ⟨b, o, rfl, hlt, hc⟩ := h.2 hz
  exact ⟨b, o, rfl, Nat.lt_of_lt_of_le hlt hb.size, fun j hj => (hb.cell (p := ⟨b, o + j, none⟩) hlt).trans (hc j hj)⟩
theorem Has.cells {w : World} {a : Addr} {zs : List Int} (h : Has w (some a) zs) : ∀ j u, (zs.map (Value.int .u8))[j]? = some u → w.cell? (a.add j) = some u := by
  intro j u hu
  have hj : j < zs.length := by
    by_cases hj : j < zs.length
    · exact hj
    · rw [List.getElem?_eq_none (by simp; omega)] at hu; exact absurd hu (by simp)
  obtain ⟨b, o, he, _, hc⟩ := h.2 (by intro e; subst e; simp at hj)
  obtain rfl : a = ⟨b, o, none⟩ := by simpa using he
  rw [List.getElem?_map, List.getElem?_eq_getElem hj] at hu
  have := hc j hj
  simp only [Option.map_some, Option.some.injEq] at hu
  subst hu
  rw [List.getD_eq_getElem?_getD, List.getElem?_eq_getElem hj] at this
  rw [show (⟨b, o, none⟩ : Addr).add j = ⟨b, o + j, none⟩ from by cases j <;> simp [Addr.add]]
  simpa using this

theorem box_cell {w w' : World} {cs : Array Value} {t : TypeId} (hb : Below (w.heap.size + 1) (w.alloc (.cells cs t)) w') (j : Nat) : w'.cell? ⟨w.heap.size, j, none⟩ = cs[j]? := by
  rw [hb.cell (p := ⟨w.heap.size, j, none⟩) (by simp)]
  exact World.cell?_alloc_at cs t _ j rfl
theorem ownsRow_base {w : World} {base base' : Nat} {e : TypeId} {size : Nat} {v : Value} {n : Nat} {xs : List Value} (h : w.ownsRow base e size v n xs) (hb : base' ≤ base) : w.ownsRow base' e size v n xs := by
  obtain ⟨h1, h2⟩ := h
  refine ⟨h1, ?_⟩
  rcases h2 with h2 | ⟨g, cap, cur, h3, h4, h5⟩
  · exact .inl h2
  · exact .inr ⟨g, cap, cur, h3, Nat.le_trans hb h4, h5⟩
theorem cells_new (w : World) (xs : List Value) (t : TypeId) : ∀ j u, xs[j]? = some u → (w.alloc (.cells xs.toArray t)).cell? ((⟨w.heap.size, 0, none⟩ : Addr).add j) = some u := by
  intro j u h
  rw [show (⟨w.heap.size, 0, none⟩ : Addr).add j = ⟨w.heap.size, j, none⟩ from by cases j <;> simp [Addr.add]]
  rw [World.cell?_alloc_at _ _ _ _ rfl]
  simpa using h
theorem below_old {w w' : World} {o : Obj} (h : Below (w.heap.size + 1) (w.alloc o) w') : Below w.heap.size w w' := ((Below.refl _ _).alloc (Nat.le_refl _) _).trans (h.mono (by omega))
theorem row_setCell {w : World} {g j : Nat} {cur : Array Value} {t : TypeId} (h : w.heap[g]? = some (.cells cur t (0, 0))) (u : Value) : (w.setCell ⟨g, j, none⟩ u).heap[g]? = some (.cells (cur.setIfInBounds j u) t (0, 0)) := by
  have hlt := lt_of_block h
  have h' : w.heap[g] = .cells cur t (0, 0) := by simpa [Array.getElem?_eq_getElem hlt] using h
  show (w.heap.modify g _)[g]? = _
  rw [Array.getElem?_eq_getElem (by simpa using hlt), Array.getElem_modify_self, h']
  rfl
theorem arr_cell {w : World} {g : Nat} {cs : Array Value} {t : TypeId} (h : w.heap[g]? = some (.cells cs t (0, 0))) (j : Nat) : w.cell? ⟨g, j, none⟩ = cs[j]? := by
  simp [World.cell?, h]
theorem arr_frozen {w : World} {g : Nat} {cs : Array Value} {t : TypeId} (h : w.heap[g]? = some (.cells cs t (0, 0))) (j : Nat) : w.frozen? ⟨g, j, none⟩ = false := by
  simp [World.frozen?, h]
theorem own_shape {w : World} {base : Nat} {e : TypeId} {v : Value} {n : Nat} {xs : List Value} (h : w.ownsRow base e 1 v n xs) : v = .slice none 0 0 ∨ ∃ g cv, v = .slice (some ⟨g, 0, none⟩) n cv := by
  rcases h.2 with ⟨h, _⟩ | ⟨g, cv, _, h, _⟩
  · exact .inl h
  · exact .inr ⟨g, cv, h⟩

end Go.Proofs.Ytajphdppmdoalaa

namespace Go.Proofs.Ytajphdppmdoalaa

/-- No entry is younger than the time. -/
def Born (S : Cl) : Prop := ∀ e ∈ S.ents, e.born ≤ S.now
theorem born_piece (S : Cl) (seq : Nat) (p : Pk) (h : Born S) : Born (pieceM S seq p) ∧ (pieceM S seq p).now = S.now ∧ (pieceM S seq p).life = S.life ∧ (pieceM S seq p).reps = S.reps ∧ (pieceM S seq p).slots = S.slots ∧ (pieceM S seq p).sent = S.sent := by
  unfold pieceM
  simp only
  split
  · exact ⟨h, rfl, rfl, rfl, rfl, rfl⟩
  · split
    · exact ⟨h, rfl, rfl, rfl, rfl, rfl⟩
    · rename_i e he
      refine ⟨?_, rfl, rfl, rfl, rfl, rfl⟩
      have hl : ∀ x ∈ (match atM S.ents p with | some _ => S.ents | none => S.ents ++ [(⟨ownerM S p, p.src, p.dst, p.proto, p.id, S.now, [], false, 0⟩ : Ent)]), x.born ≤ S.now := by
        cases atM S.ents p with
        | some _ => exact h
        | none =>
          intro x hx
          simp only [List.mem_append, List.mem_singleton] at hx
          rcases hx with hx | rfl
          · exact h x hx
          · exact Int.le_refl _
      intro x hx
      simp only at hx
      split at hx
      · exact hl x (mem_gone _ _ x hx)
      · rcases List.mem_or_eq_of_mem_set hx with hx | hx
        · exact hl x hx
        · subst hx
          exact hl e (List.mem_of_getElem? he)
theorem born_arrive (S : Cl) (rep : Int) (u : Option Pk) (h : Born S) : Born (arriveM S rep u) ∧ (arriveM S rep u).now = S.now ∧ (arriveM S rep u).life = S.life ∧ (arriveM S rep u).reps = S.reps ∧ (arriveM S rep u).slots = S.slots := by
  unfold arriveM
  simp only
  cases u with
  | none => exact ⟨h, rfl, rfl, rfl, rfl⟩
  | some p =>
    simp only
    split
    · split <;> exact ⟨h, rfl, rfl, rfl, rfl⟩
    · split
      · have := born_piece { S with next := S.next + 1 } S.next p h
        exact ⟨this.1, this.2.1, this.2.2.1, this.2.2.2.1, this.2.2.2.2.1⟩
      · exact ⟨h, rfl, rfl, rfl, rfl⟩
theorem born_deliver (S : Cl) (k : Nat) (h : Born S) : Born (deliverM S k) ∧ (deliverM S k).now = S.now ∧ (deliverM S k).life = S.life ∧ (deliverM S k).reps = S.reps ∧ (deliverM S k).slots = S.slots := by
  unfold deliverM
  split
  · rename_i s _
    have := born_piece (landM S k) s.seq s.p h
    exact ⟨this.1, this.2.1, this.2.2.1, this.2.2.2.1, this.2.2.2.2.1⟩
  · exact ⟨h, rfl, rfl, rfl, rfl⟩
theorem born_lose (S : Cl) (k : Nat) (h : Born S) : Born (loseM S k) ∧ (loseM S k).now = S.now ∧ (loseM S k).life = S.life ∧ (loseM S k).reps = S.reps ∧ (loseM S k).slots = S.slots := by
  unfold loseM
  split <;> exact ⟨h, rfl, rfl, rfl, rfl⟩
theorem born_tick (S : Cl) (h : Born S) : Born (tickM S) := by
  intro e he
  have := h e (List.mem_filter.1 he).1
  show e.born ≤ S.now + 1
  omega
def ticksM (S : Cl) : Nat → Cl
  | 0 => S
  | n + 1 => tickM (ticksM S n)
theorem ticks_now (S : Cl) (n : Nat) : (ticksM S n).now = S.now + n ∧ (ticksM S n).life = S.life ∧ (ticksM S n).reps = S.reps ∧ (ticksM S n).slots = S.slots ∧ (ticksM S n).sent = S.sent ∧ (ticksM S n).next = S.next := by
  induction n with
  | zero => exact ⟨by simp [ticksM], rfl, rfl, rfl, rfl, rfl⟩
  | succ n ih =>
    refine ⟨?_, ih.2.1, ih.2.2.1, ih.2.2.2.1, ih.2.2.2.2.1, ih.2.2.2.2.2⟩
    show (ticksM S n).now + 1 = _
    rw [ih.1]
    omega
theorem ticks_ents (S : Cl) (n : Nat) : ∀ e ∈ (ticksM S n).ents, e ∈ S.ents ∧ (0 < n → S.now + n - e.born < S.life) := by
  induction n with
  | zero => intro e he; exact ⟨he, fun h => by omega⟩
  | succ n ih =>
    intro e he
    have hm := List.mem_filter.1 he
    refine ⟨(ih e hm.1).1, fun _ => ?_⟩
    have h1 := hm.2
    unfold oldM at h1
    simp only [(ticks_now S n).1, (ticks_now S n).2.1] at h1
    simp at h1
    omega
/-- Life ticks with nothing between leave nothing. -/
theorem ticks_none (S : Cl) (n : Nat) (h : Born S) (hl : S.life ≤ n) (hn : 0 < n) : (ticksM S n).ents = [] := by
  rw [List.eq_nil_iff_forall_not_mem]
  intro e he
  obtain ⟨h1, h2⟩ := ticks_ents S n e he
  have := h2 hn
  have := h e h1
  omega
/-- As long as no entry is old a tick changes the time alone. -/
theorem tick_young (S : Cl) (h : ∀ e ∈ S.ents, S.now + 1 - e.born < S.life) : tickM S = { S with now := S.now + 1 } := by
  have h1 : ∀ e ∈ S.ents, oldM { S with now := S.now + 1 } e = false := by
    intro e he
    have := h e he
    unfold oldM
    simp
    omega
  have h2 : ∀ o : Nat, S.ents.filter (fun e => e.owner == (o : Int) && oldM { S with now := S.now + 1 } e) = [] := by
    intro o
    rw [List.filter_eq_nil_iff]
    intro e he
    rw [h1 e he]
    simp
  have h3 : S.ents.filter (fun e => !oldM { S with now := S.now + 1 } e) = S.ents := by
    rw [List.filter_eq_self]
    intro e he
    rw [h1 e he]
    rfl
  unfold tickM
  simp only [h2, h3, List.flatMap_nil, List.map_nil]
  have h4 : ∀ m : List Nat, m.flatMap (fun _ => ([] : List Ev)) = [] := by
    intro m
    induction m with
    | nil => rfl
    | cons x m ih => rw [List.flatMap_cons, ih]; rfl
  rw [h4, List.append_nil]
theorem ticks_young (S : Cl) (n : Nat) (h : ∀ e ∈ S.ents, S.now + n - e.born < S.life) : ticksM S n = { S with now := S.now + n } := by
  induction n with
  | zero => simp [ticksM]
  | succ n ih =>
    have ih := ih (fun e he => by have := h e he; omega)
    rw [ticksM, ih, tick_young _ (fun e he => by
      have := h e he
      show S.now + n + 1 - e.born < S.life
      omega)]
    congr 1
    show S.now + n + 1 = S.now + ((n + 1 : Nat) : Int)
    omega

/-- A later piece comes to an owner that keeps nothing: it waits there. -/
theorem piece_alone (S : Cl) (seq : Nat) (p : Pk) (he : S.ents = []) (ho : 0 < p.off) (hl : p.dlen ≤ 48) :
    pieceM S seq p = { S with ents := [⟨ownerM S p, p.src, p.dst, p.proto, p.id, S.now, [⟨seq, 4 * p.off, 4 * p.off + p.dlen, !p.more, true⟩], false, 0⟩] } := by
  obtain ⟨reps, life, now, next, slots, ents, sent, evs⟩ := S
  simp only at he
  subst he
  have hat : atM [] p = none := rfl
  have h0 : entsM ⟨reps, life, now, next, slots, [], sent, evs⟩ (ownerM ⟨reps, life, now, next, slots, [], sent, evs⟩ p) = [] := rfl
  have hB : heldB ⟨reps, life, now, next, slots, [], sent, evs⟩ (ownerM ⟨reps, life, now, next, slots, [], sent, evs⟩ p) = 0 := rfl
  have hna : (pcM seq p).a = 4 * p.off := rfl
  have hnb : (pcM seq p).b = 4 * p.off + p.dlen := rfl
  have hf : refusedM ⟨reps, life, now, next, slots, [], sent, evs⟩ none p (pcM seq p) = 0 := by
    unfold refusedM
    rw [if_neg (by rw [hna]; omega), if_neg (by rw [h0]; simp), if_neg (by simp), if_neg (by rw [hB, hna, hnb]; omega)]
  have hne : ¬ (pcM seq p).a = 0 := by rw [hna]; omega
  have ht : takenM ⟨reps, life, now, next, slots, [], sent, evs⟩ ⟨ownerM ⟨reps, life, now, next, slots, [], sent, evs⟩ p, p.src, p.dst, p.proto, p.id, now, [], false, 0⟩ p (pcM seq p) = (⟨ownerM ⟨reps, life, now, next, slots, [], sent, evs⟩ p, p.src, p.dst, p.proto, p.id, now, [⟨seq, 4 * p.off, 4 * p.off + p.dlen, !p.more, true⟩], false, 0⟩, []) := by
    unfold takenM
    simp only [hne, if_false, List.map_nil, List.nil_append]
    rfl
  have hw : wholeM ⟨ownerM ⟨reps, life, now, next, slots, [], sent, evs⟩ p, p.src, p.dst, p.proto, p.id, now, [⟨seq, 4 * p.off, 4 * p.off + p.dlen, !p.more, true⟩], false, 0⟩ = false := by
    unfold wholeM
    cases p.more with
    | true => simp [bytesL]; omega
    | false => simp [bytesL]; omega
  unfold pieceM
  simp only [hat, Option.bind_none, hf, Option.getD_none]
  rw [if_neg (by simp)]
  simp only [List.nil_append, List.length_nil, List.getElem?_cons_zero, ht, hw, Bool.false_eq_true, if_false, List.set_cons_zero, List.append_nil]
theorem arrive_alone (S : Cl) (p : Pk) (he : S.ents = []) (ho : 0 < p.off) (hl : p.dlen ≤ 48) :
    arriveM S (ownerM S p) (some p) = { S with next := S.next + 1, ents := [⟨ownerM S p, p.src, p.dst, p.proto, p.id, S.now, [⟨S.next, 4 * p.off, 4 * p.off + p.dlen, !p.more, true⟩], false, 0⟩] } := by
  have hw : wholePk p = false := by unfold wholePk; rw [Bool.and_eq_false_iff]; left; simp; omega
  unfold arriveM
  simp only [hw, Bool.false_eq_true, if_false, if_true]
  exact piece_alone { S with next := S.next + 1 } S.next p he ho hl
/-- Such a piece is Timeout just when life ticks have gone by. -/
theorem alone_ends (S : Cl) (e : Ent) (seq : Nat) (a b : Int) (ends : Bool) (t : Nat) (he : S.ents = [e]) (hp : e.pcs = [⟨seq, a, b, ends, true⟩]) (hb : e.born = S.now) (hl : S.life = t) (ht : 1 ≤ t) (hor : 0 ≤ e.owner ∧ e.owner < S.reps) :
    ticksM S (t - 1) = { S with now := S.now + (t - 1 : Nat) } ∧ (tickM { S with now := S.now + (t - 1 : Nat) }).evs = S.evs ++ [⟨seq, 6, 0⟩] ∧ (tickM { S with now := S.now + (t - 1 : Nat) }).ents = [] := by
  refine ⟨ticks_young S (t - 1) (fun x hx => by rw [he, List.mem_singleton] at hx; subst hx; omega), ?_, ?_⟩
  · have hold : oldM { S with now := S.now + (t - 1 : Nat) + 1 } e = true := by unfold oldM; simp; omega
    have hw : waitL e = [⟨seq, a, b, ends, true⟩] := by unfold waitL; rw [hp]; rfl
    unfold tickM
    simp only [he]
    congr 1
    have key : ∀ m : Nat, ((List.range m).flatMap (fun (o : Nat) => (([e].filter (fun x => x.owner == (o : Int) && oldM { S with now := S.now + (t - 1 : Nat) + 1 } x)).flatMap waitL).map (fun q => (⟨q.seq, 6, 0⟩ : Ev)))) = if e.owner < m then [⟨seq, 6, 0⟩] else [] := by
      intro m
      induction m with
      | zero => rw [if_neg (by omega)]; rfl
      | succ m ih =>
        rw [List.range_succ, List.flatMap_append, ih]
        simp only [List.flatMap_cons, List.flatMap_nil, List.append_nil, List.filter_cons, List.filter_nil, hold, Bool.and_true]
        by_cases hm : e.owner = (m : Int)
        · have hc : (e.owner == (m : Int)) = true := by simpa using hm
          have h1 : ¬ e.owner < (m : Int) := by omega
          have h2 : e.owner < ((m + 1 : Nat) : Int) := by omega
          simp only [hc, h1, h2, if_true, if_false, List.flatMap_cons, List.flatMap_nil, List.append_nil, hw, List.nil_append, List.map_cons, List.map_nil]
        · have hc : (e.owner == (m : Int)) = false := by simpa using hm
          simp only [hc, Bool.false_eq_true, if_false, List.flatMap_nil, List.map_nil, List.append_nil]
          by_cases hlt : e.owner < (m : Int)
          · rw [if_pos hlt, if_pos (by omega)]
          · rw [if_neg hlt, if_neg (by omega)]
    have := key S.reps.toNat
    rw [if_pos (by omega)] at this
    exact this
  · have hold : oldM { S with now := S.now + (t - 1 : Nat) + 1 } e = true := by unfold oldM; simp; omega
    simp only [he] at hold
    unfold tickM
    simp only [he, List.filter_cons, List.filter_nil, hold]
    rfl

end Go.Proofs.Ytajphdppmdoalaa

namespace Go.Proofs.Ytajphdppmdoalaa
set_option linter.unusedVariables false

/-- A cluster as it comes about, with all that the walks ask of it. -/
structure Good (S : Cl) : Prop where
  sml : Sml S
  uq : Uq S.ents
  dst : ∀ s ∈ S.sent, s.to = ownerM S s.p
  born : Born S
  evs : ∀ v ∈ S.evs, v.fate ≠ 0 → v.whr = 0
theorem good_new (reps life : Int) (h : 1 ≤ reps) (h5 : reps ≤ 5) (hl : 1 ≤ life ∧ life ≤ 20) : Good (Cl.new reps life) :=
  ⟨sml_new reps life h h5 hl, List.Pairwise.nil, by simp [Cl.new], by intro e he; simp [Cl.new] at he, by simp [Cl.new]⟩
theorem come_evs (L : List Ent) (own now : Int) (seq : Nat) (p : Pk) (b : Int) (ok : Bool) : ∀ v ∈ (comeS L own now seq p b ok).2, v.fate ≠ 0 → v.whr = 0 := by
  unfold comeS
  simp only
  split
  · intro v hv
    rw [List.mem_singleton.1 hv]
    intro _
    rfl
  · split
    · simp
    · unfold takenB
      simp only
      split
      · intro v hv hf
        rcases List.mem_cons.1 hv with rfl | hv
        · exact absurd rfl hf
        · obtain ⟨q, _, rfl⟩ := List.mem_map.1 hv
          exact absurd rfl hf
      · simp
theorem good_piece (S : Cl) (seq : Nat) (p : Pk) (h : Good S) (hc : (seqsM S).length + 1 ≤ S.next) (hp : PkOK p) (hb : PkB p) (hq : seq ≤ 2000000000000) : Good (pieceM S seq p) := by
  have hps := piece_store S seq p h.sml.cok h.uq
  have hsm := piece_same S seq p
  have hbn := born_piece S seq p h.born
  refine ⟨sml_piece S seq p h.sml hc hp hb hq, hps.2.2.2, ?_, hbn.1, ?_⟩
  · intro s hs
    rw [hsm.2.2.2.2.2] at hs
    have := h.dst s hs
    rw [this]
    unfold ownerM
    rw [hsm.1]
  · intro v hv
    rw [hps.1] at hv
    rcases List.mem_append.1 hv with hv | hv
    · exact h.evs v hv
    · exact come_evs _ _ _ _ _ _ _ v hv
theorem good_told (S : Cl) (seq : Nat) (f w : Int) (h : Good S) (hc : (seqsM S).length + 1 ≤ S.next) (hf : f ≠ 0 → w = 0) : Good (toldM S seq f w) := by
  refine ⟨sml_told S seq f w h.sml hc, h.uq, h.dst, h.born, ?_⟩
  intro v hv
  rcases List.mem_append.1 hv with hv | hv
  · exact h.evs v hv
  · rw [List.mem_singleton.1 hv]
    exact hf
theorem good_next (S : Cl) (h : Good S) (hn : S.next + 1 ≤ 2000000000000) : Good { S with next := S.next + 1 } ∧ (seqsM { S with next := S.next + 1 }).length + 1 ≤ S.next + 1 :=
  ⟨⟨(sml_next S h.sml hn).1, h.uq, h.dst, h.born, h.evs⟩, (sml_next S h.sml hn).2⟩
theorem good_arrive (S : Cl) (rep : Int) (u : Option Pk) (h : Good S) (hn : S.next + 1 ≤ 2000000000000) (hu : ∀ p, u = some p → PkB p ∧ (wholePk p = false → PkOK p)) : Good (arriveM S rep u) := by
  have hs := sml_arrive S rep u h.sml hn hu
  have h1 := good_next S h hn
  cases u with
  | none => exact good_told _ _ _ _ h1.1 h1.2 (fun _ => rfl)
  | some p =>
    obtain ⟨hb, hok⟩ := hu p rfl
    cases hw : wholePk p with
    | true =>
      have he : arriveM S rep (some p) = if S.slots = [] then toldM { S with next := S.next + 1 } S.next 2 0 else toldM { S with next := S.next + 1 } S.next 0 (chosenM S p) := by
        unfold arriveM
        simp only [hw, if_true]
      rw [he]
      split
      · exact good_told _ _ _ _ h1.1 h1.2 (fun _ => rfl)
      · exact good_told _ _ _ _ h1.1 h1.2 (fun hh => absurd rfl hh)
    | false =>
      by_cases ho : ownerM S p = rep
      · have he : arriveM S rep (some p) = pieceM { S with next := S.next + 1 } S.next p := by
          unfold arriveM
          simp only [hw, Bool.false_eq_true, if_false]
          rw [if_pos ho]
        rw [he]
        exact good_piece _ _ _ h1.1 h1.2 (hok hw) hb (by omega)
      · have he : arriveM S rep (some p) = { S with next := S.next + 1, sent := S.sent ++ [⟨S.next, rep, ownerM S p, p⟩] } := by
          unfold arriveM
          simp only [hw, Bool.false_eq_true, if_false]
          rw [if_neg ho]
        rw [he] at hs ⊢
        refine ⟨hs, h.uq, ?_, h.born, h.evs⟩
        intro s hsm
        rcases List.mem_append.1 hsm with hsm | hsm
        · exact h.dst s hsm
        · rw [List.mem_singleton.1 hsm]
          rfl
theorem good_land (S : Cl) (k : Nat) (s : Snt) (h : Good S) (hk : S.sent[k]? = some s) : Good (landM S k) ∧ (seqsM (landM S k)).length + 1 ≤ (landM S k).next := by
  obtain ⟨h1, h2⟩ := sml_land S k s h.sml hk
  exact ⟨⟨h1, h.uq, fun x hx => h.dst x (mem_gone _ _ _ hx), h.born, h.evs⟩, h2⟩
theorem good_deliver (S : Cl) (k : Nat) (h : Good S) : Good (deliverM S k) := by
  unfold deliverM
  cases hk : S.sent[k]? with
  | none => exact h
  | some s =>
    obtain ⟨h1, h2⟩ := good_land S k s h hk
    have hm := List.mem_of_getElem? hk
    exact good_piece _ _ _ h1 h2 (h.sml.cok.sent s hm) (h.sml.sent s hm).1 (h.sml.sent s hm).2
theorem good_lose (S : Cl) (k : Nat) (h : Good S) : Good (loseM S k) := by
  unfold loseM
  cases hk : S.sent[k]? with
  | none => exact h
  | some s =>
    obtain ⟨h1, h2⟩ := good_land S k s h hk
    exact good_told _ _ _ _ h1 h2 (fun _ => rfl)
theorem good_take (S : Cl) (h : Good S) : Good (takeM S) := ⟨sml_take S h.sml, h.uq, h.dst, h.born, by simp [takeM]⟩
theorem good_back (S : Cl) (T : List Int) (h : Good S) (h1 : T = [] ∨ T.length = 31) (h2 : ∀ z ∈ T, 0 ≤ z ∧ z ≤ 255) : Good (backM S T) := ⟨sml_back S T h.sml h1 h2, h.uq, h.dst, h.born, h.evs⟩
theorem good_tick (S : Cl) (h : Good S) (hn : S.now + 1 ≤ 2000000000000) : Good (tickM S) := by
  refine ⟨sml_tick S h.sml hn, uq_tick S h.uq, h.dst, born_tick S h.born, ?_⟩
  intro v hv
  rw [(tick_store S).1] at hv
  rcases List.mem_append.1 hv with hv | hv
  · exact h.evs v hv
  · obtain ⟨o, _, hv⟩ := List.mem_flatMap.1 hv
    obtain ⟨q, _, rfl⟩ := List.mem_map.1 hv
    intro _
    rfl

end Go.Proofs.Ytajphdppmdoalaa

namespace Go.Proofs.Ytajphdppmdoalaa

theorem nd_snoc (l : List Int) (x : Int) (h : nd l = true) (hx : x ∉ l) : nd (l ++ [x]) = true := by
  induction l with
  | nil => rfl
  | cons a l ih =>
    rw [nd, Bool.and_eq_true] at h
    rw [List.cons_append, nd, Bool.and_eq_true]
    refine ⟨?_, ih h.2 (fun hm => hx (List.mem_cons_of_mem _ hm))⟩
    rw [Bool.not_eq_true', Bool.eq_false_iff]
    intro hc
    rw [List.contains_iff_mem, List.mem_append] at hc
    rcases hc with hc | hc
    · have : l.contains a = false := by simpa using h.1
      rw [List.contains_iff_mem.2 hc] at this
      simp at this
    · simp at hc
      exact hx (by simp [hc])
theorem asc_nd (zs : List Int) (k : Nat) : nd (ascK zs k) = true := by
  induction k with
  | zero => rfl
  | succ k ih =>
    rw [ascK]
    split
    · refine nd_snoc _ _ ih ?_
      intro h
      have := (ascK_mem zs k k).1 h
      omega
    · exact ih
theorem ascK_prefix (zs : List Int) (k : Nat) : ∀ d, ∃ r, ascK zs (k + d) = ascK zs k ++ r := by
  intro d
  induction d with
  | zero => exact ⟨[], by simp⟩
  | succ d ih =>
    obtain ⟨r, hr⟩ := ih
    rw [← Nat.add_assoc, ascK]
    split
    · exact ⟨r ++ [((k + d : Nat) : Int)], by rw [hr, List.append_assoc]⟩
    · exact ⟨r, hr⟩
/-- The place of a backend in the order is how many lie below it. -/
theorem asc_at (zs : List Int) (b : Nat) (hb : b < 256) (hm : (b : Int) ∈ zs) : (ascK zs b).length < (asc zs).length ∧ (asc zs).getD (ascK zs b).length 0 = b := by
  obtain ⟨r, hr⟩ := ascK_prefix zs (b + 1) (255 - b)
  rw [show b + 1 + (255 - b) = 256 from by omega, show ascK zs (b + 1) = ascK zs b ++ [(b : Int)] from by rw [ascK, if_pos (List.contains_iff_mem.2 hm)]] at hr
  unfold asc
  rw [hr]
  constructor
  · simp only [List.length_append, List.length_singleton]; omega
  · rw [List.append_assoc, List.getD_eq_getElem?_getD, List.getElem?_append_right (Nat.le_refl _)]
    simp
/-- How many of the first m rounds are those of the place p. -/
def tn (k p : Nat) : Nat → Nat
  | 0 => 0
  | m + 1 => tn k p m + if m % k = p then 1 else 0
def shr (k p : Nat) : Nat := 31 / k + if p < 31 % k then 1 else 0
theorem tn_shr : ∀ k : Fin 7, ∀ p : Fin 7, p.val < k.val → tn k.val p.val 31 = shr k.val p.val := by decide
def allK (k : Nat) : Nat → Nat
  | 0 => 0
  | p + 1 => allK k p + shr k p
theorem allK_all : ∀ k : Fin 7, 1 ≤ k.val → allK k.val k.val = 31 := by decide
theorem allK_le (k : Nat) : ∀ p, p ≤ 6 → 1 ≤ k → allK k p ≤ 32 * p := by
  intro p
  induction p with
  | zero => intro _ _; simp [allK]
  | succ p ih =>
    intro h hk
    have := ih (by omega) hk
    have h31 : 31 / k ≤ 31 := Nat.div_le_self _ _
    rw [allK, shr]
    split <;> omega
theorem turns_tn (ord : List Int) (b : Int) (p : Nat) (hn : nd ord = true) (hp : p < ord.length) (hb : ord.getD p 0 = b) (m : Nat) : turns ord b m = tn ord.length p m := by
  induction m with
  | zero => rfl
  | succ m ih =>
    rw [turns, tn, ih]
    congr 1
    have hlt : m % ord.length < ord.length := Nat.mod_lt _ (by omega)
    by_cases h : m % ord.length = p
    · rw [if_pos h, if_pos (by rw [h, hb])]
    · rw [if_neg h, if_neg]
      intro he
      rw [← hb] at he
      rcases Nat.lt_or_gt_of_ne h with h1 | h1
      · exact (nd_get ord).1 hn p _ h1 hp he.symm
      · exact (nd_get ord).1 hn _ p h1 hlt he
theorem turns_none (ord : List Int) (b : Int) (h0 : 0 < ord.length) (hb : b ∉ ord) (m : Nat) : turns ord b m = 0 := by
  induction m with
  | zero => rfl
  | succ m ih =>
    rw [turns, ih, if_neg]
    intro he
    apply hb
    have hlt : m % ord.length < ord.length := Nat.mod_lt _ h0
    rw [← he, List.getD_eq_getElem?_getD, List.getElem?_eq_getElem hlt]
    exact List.getElem_mem _
/-- How many slots a number has. -/
theorem share (zs : List Int) (b : Nat) (hb : b < 256) (h1 : 1 ≤ (asc zs).length) (h6 : (asc zs).length ≤ 6) :
    (tbl zs).count (b : Int) = if (b : Int) ∈ zs then shr (asc zs).length (ascK zs b).length else 0 := by
  rw [tbl_count]
  by_cases hm : (b : Int) ∈ zs
  · rw [if_pos hm]
    obtain ⟨h2, h3⟩ := asc_at zs b hb hm
    rw [turns_tn (asc zs) b _ (asc_nd zs 256) h2 h3]
    exact tn_shr ⟨_, by omega⟩ ⟨(ascK zs b).length, by omega⟩ h2
  · rw [if_neg hm]
    refine turns_none _ _ (by omega) ?_ _
    intro h
    exact hm ((ascK_mem zs 256 b).1 h).1
/-- The share before. -/
def lastK (k p : Nat) : Nat := if p = 0 then 31 else shr k (p - 1)
theorem shr_last (k p : Nat) (hk : 1 ≤ k) : shr k p ≤ lastK k p := by
  unfold lastK shr
  have : 31 / k ≤ 31 := Nat.div_le_self _ _
  by_cases hp : p = 0
  · subst hp
    rw [if_pos rfl]
    by_cases h : 0 < 31 % k
    · rw [if_pos h]
      have hk2 : k ≠ 1 := by rintro rfl; simp at h
      have : 31 / k ≤ 31 / 2 := Nat.div_le_div_left (by omega) (by omega)
      omega
    · rw [if_neg h]; omega
  · rw [if_neg hp]
    by_cases h : p < 31 % k
    · rw [if_pos h, if_pos (by omega)]; exact Nat.le_refl _
    · rw [if_neg h]; omega
theorem shr_bd (k p : Nat) (hk : 1 ≤ k) (h6 : k ≤ 6) : 31 / k ≤ shr k p ∧ shr k p ≤ 31 / k + 1 ∧ 1 ≤ shr k p ∧ shr k p ≤ 32 := by
  unfold shr
  have : 31 / k ≤ 31 := Nat.div_le_self _ _
  have h5 : 31 / 6 ≤ 31 / k := Nat.div_le_div_left h6 (by omega)
  split <;> omega

/-- Backends out of a first one and a step. -/
def smL (f s : Int) : Nat → List Int
  | 0 => []
  | n + 1 => smL f s n ++ [(f + n * s) % 256]
theorem smL_len (f s : Int) (n : Nat) : (smL f s n).length = n := by
  induction n with
  | zero => rfl
  | succ n ih => rw [smL, List.length_append, ih]; rfl
theorem smL_get (f s : Int) (n i : Nat) (h : i < n) : (smL f s n).getD i 0 = (f + i * s) % 256 := by
  induction n with
  | zero => omega
  | succ n ih =>
    rw [smL, List.getD_eq_getElem?_getD]
    by_cases hi : i < n
    · rw [List.getElem?_append_left (by rw [smL_len]; exact hi), ← List.getD_eq_getElem?_getD, ih hi]
    · obtain rfl : i = n := by omega
      rw [List.getElem?_append_right (by rw [smL_len]; omega), smL_len]
      simp
theorem smL_nd (f s : Int) (n : Nat) (h1 : 1 ≤ s) (h2 : s ≤ 39) (hn : n ≤ 6) : nd (smL f s n) = true := by
  rw [nd_get]
  intro i k hk hi
  rw [smL_len] at hi
  rw [smL_get _ _ _ _ hi, smL_get _ _ _ _ (by omega)]
  have hi6 : i < 6 := by omega
  have hk6 : k < 6 := by omega
  have hd : (i : Int) * s - k * s = (i - k : Nat) * s := by rw [Int.ofNat_sub (by omega), Int.sub_mul]
  generalize (i : Int) * s = a at *
  generalize (k : Int) * s = c at *
  have hd2 : ∃ d : Nat, d = i - k ∧ 1 ≤ d ∧ d ≤ 5 := ⟨i - k, rfl, by omega, by omega⟩
  obtain ⟨d, hde, hd0, hd5⟩ := hd2
  rw [← hde] at hd
  rcases (show d = 1 ∨ d = 2 ∨ d = 3 ∨ d = 4 ∨ d = 5 by omega) with h | h | h | h | h <;> subst h <;> omega
theorem smL_bd (f s : Int) (n : Nat) : ∀ z ∈ smL f s n, 0 ≤ z ∧ z ≤ 255 := by
  induction n with
  | zero => intro z hz; simp [smL] at hz
  | succ n ih =>
    intro z hz
    rw [smL, List.mem_append] at hz
    rcases hz with hz | hz
    · exact ih z hz
    · simp at hz; subst hz; omega
/-- The same, told from another place on and backward. -/
def bkL (l : List Int) (t : Nat) : Nat → List Int
  | 0 => []
  | i + 1 => bkL l t i ++ [l.getD ((l.length - 1 - i + t) % l.length) 0]
theorem bkL_len (l : List Int) (t i : Nat) : (bkL l t i).length = i := by
  induction i with
  | zero => rfl
  | succ n ih => rw [bkL, List.length_append, ih]; rfl
theorem bkL_mem (l : List Int) (t : Nat) (b : Int) : ∀ i, b ∈ bkL l t i ↔ ∃ j, j < i ∧ b = l.getD ((l.length - 1 - j + t) % l.length) 0 := by
  intro i
  induction i with
  | zero => simp [bkL]
  | succ n ih =>
    rw [bkL, List.mem_append, ih, List.mem_singleton]
    constructor
    · rintro (⟨j, h1, h2⟩ | h)
      · exact ⟨j, by omega, h2⟩
      · exact ⟨n, by omega, h⟩
    · rintro ⟨j, h1, h2⟩
      by_cases hj : j < n
      · exact .inl ⟨j, hj, h2⟩
      · obtain rfl : j = n := by omega
        exact .inr h2
theorem mem_getD (l : List Int) (b : Int) : b ∈ l ↔ ∃ j, j < l.length ∧ b = l.getD j 0 := by
  constructor
  · intro h
    obtain ⟨i, hi, he⟩ := List.getElem_of_mem h
    exact ⟨i, hi, by rw [List.getD_eq_getElem?_getD, List.getElem?_eq_getElem hi, he]; rfl⟩
  · rintro ⟨j, hj, rfl⟩
    rw [List.getD_eq_getElem?_getD, List.getElem?_eq_getElem hj]
    exact List.getElem_mem _
theorem bkL_same (l : List Int) (t : Nat) (h6 : l.length ≤ 6) (ht : t < l.length) (b : Int) : b ∈ l ↔ b ∈ bkL l t l.length := by
  rw [bkL_mem, mem_getD]
  constructor
  · rintro ⟨j, hj, rfl⟩
    refine ⟨(l.length - 1 + t - j) % l.length, Nat.mod_lt _ (by omega), ?_⟩
    congr 1
    generalize l.length = n at *
    rcases (show n = 1 ∨ n = 2 ∨ n = 3 ∨ n = 4 ∨ n = 5 ∨ n = 6 by omega) with h | h | h | h | h | h <;> subst h <;> omega
  · rintro ⟨j, hj, rfl⟩
    exact ⟨_, Nat.mod_lt _ (by omega), rfl⟩
theorem bkL_asc (l : List Int) (t : Nat) (h6 : l.length ≤ 6) (ht : t < l.length) : asc (bkL l t l.length) = asc l := ascK_cong _ _ (fun b => (bkL_same l t h6 ht b).symm) _
theorem bkL_bd (l : List Int) (t : Nat) (h6 : l.length ≤ 6) (ht : t < l.length) (hb : ∀ z ∈ l, 0 ≤ z ∧ z ≤ 255) : ∀ z ∈ bkL l t l.length, 0 ≤ z ∧ z ≤ 255 := fun z hz => hb z ((bkL_same l t h6 ht z).2 hz)
theorem tbl_cong (l m : List Int) (h : asc l = asc m) : tbl l = tbl m := by rw [tbl, tbl, h]
/-- The numbers of a table are those of the list. -/
theorem count_take (l : List Int) (i : Nat) (b : Int) (hi : i < l.length) : (l.take (i + 1)).count b = (l.take i).count b + if l.getD i 0 = b then 1 else 0 := count_take_succ l i b hi

end Go.Proofs.Ytajphdppmdoalaa

namespace Go.Proofs.Ytajphdppmdoalaa

/-- Is the first piece among these? -/
def kn (A : List (Nat × Pk)) : Bool := A.any (fun x => decide (x.2.off = 0))
/-- Accepted pieces, as an entry has them. -/
def pcsOf (A : List (Nat × Pk)) : List Pc := A.map (fun x => { pcM x.1 x.2 with waits := !kn A })
/-- The entry of a datagram of which these pieces were accepted. -/
def entOf (owner born to : Int) (k : Pk) (A : List (Nat × Pk)) : Ent := ⟨owner, k.src, k.dst, k.proto, k.id, born, pcsOf A, kn A, if kn A then to else 0⟩
def sameK (k p : Pk) : Prop := k.src = p.src ∧ k.dst = p.dst ∧ k.proto = p.proto ∧ k.id = p.id
theorem kn_snoc (A : List (Nat × Pk)) (x : Nat × Pk) : kn (A ++ [x]) = (kn A || decide (x.2.off = 0)) := by simp [kn]
theorem wait_of (owner born to : Int) (k : Pk) (A : List (Nat × Pk)) : waitL (entOf owner born to k A) = if kn A then [] else pcsOf A := by
  unfold waitL entOf
  simp only
  split
  · rename_i h
    rw [List.filter_eq_nil_iff]
    intro q hq
    unfold pcsOf at hq
    rw [List.mem_map] at hq
    obtain ⟨x, _, rfl⟩ := hq
    simp [h]
  · rename_i h
    rw [List.filter_eq_self]
    intro q hq
    unfold pcsOf at hq
    rw [List.mem_map] at hq
    obtain ⟨x, _, rfl⟩ := hq
    have : kn A = false := by simpa using h
    simp [this]
theorem pcs_bytes (A : List (Nat × Pk)) : bytesL (pcsOf A) = ((A.map (fun x => (x.2.dlen : Int))).sum) := by
  unfold bytesL pcsOf
  rw [List.map_map]
  congr 1
  refine List.map_congr_left (fun x _ => ?_)
  show (4 * x.2.off + x.2.dlen) - 4 * x.2.off = _
  omega
theorem clash_waits (q r : Pc) (b c : Bool) : clashM { q with waits := b } { r with waits := c } = clashM q r := rfl
/-- One piece more. -/
theorem taken_of (S : Cl) (owner born to : Int) (k p : Pk) (A : List (Nat × Pk)) (seq : Nat) (ht : p.off = 0 → chosenM S p = to) :
    takenM S (entOf owner born to k A) p (pcM seq p) = (entOf owner born to k (A ++ [(seq, p)]), if kn (A ++ [(seq, p)]) then ⟨seq, 0, to⟩ :: (if kn A then [] else A.map (fun x => ⟨x.1, 0, to⟩)) else []) := by
  have ha : ((pcM seq p).a = 0) ↔ p.off = 0 := by show 4 * p.off = 0 ↔ _; omega
  have hd : decide ((pcM seq p).a = 0) = decide (p.off = 0) := decide_eq_decide.2 ha
  have hk : ((entOf owner born to k A).known || decide ((pcM seq p).a = 0)) = kn (A ++ [(seq, p)]) := by rw [kn_snoc, hd]; rfl
  have hto : kn (A ++ [(seq, p)]) = true → (if (pcM seq p).a = 0 then chosenM S p else (entOf owner born to k A).to) = «to» := by
    intro hkn
    by_cases h0 : p.off = 0
    · rw [if_pos (ha.2 h0), ht h0]
    · rw [if_neg (fun h => h0 (ha.1 h))]
      rw [kn_snoc] at hkn
      have : kn A = true := by simpa [h0] using hkn
      show (if kn A then to else 0) = to
      rw [if_pos this]
  unfold takenM
  simp only [hk]
  rw [Prod.mk.injEq]
  constructor
  · unfold entOf
    simp only [Ent.mk.injEq, true_and]
    refine ⟨?_, ?_⟩
    · unfold pcsOf
      rw [List.map_append, List.map_map]
      congr 1
      refine List.map_congr_left (fun x _ => ?_)
      cases hkn : kn (A ++ [(seq, p)]) with
      | true => simp
      | false =>
        rw [kn_snoc, Bool.or_eq_false_iff] at hkn
        simp [hkn.1]
    · cases hkn : kn (A ++ [(seq, p)]) with
      | true => exact hto hkn
      | false =>
        rw [kn_snoc, Bool.or_eq_false_iff] at hkn
        have h0 : ¬ p.off = 0 := by simpa using hkn.2
        rw [if_neg (fun h => h0 (ha.1 h)), hkn.1]
  · cases hkn : kn (A ++ [(seq, p)]) with
    | false => rfl
    | true =>
      simp only [if_true]
      have e := hto hkn
      unfold entOf at e
      rw [show (if (pcM seq p).a = 0 then chosenM S p else (entOf owner born to k A).to) = to from hto hkn, wait_of]
      congr 1
      split
      · rfl
      · unfold pcsOf
        rw [List.map_map]
        rfl

/-- A piece comes to an owner that keeps nothing but its datagram. -/
theorem piece_of (S : Cl) (born to : Int) (k p : Pk) (A : List (Nat × Pk)) (seq : Nat) (hk : sameK k p) (hS : S.ents = if A = [] then [] else [entOf (ownerM S p) born to k A]) (hb : A = [] → born = S.now)
    (ht : p.off = 0 → chosenM S p = to) (hsl : p.off = 0 → S.slots ≠ []) (hc : ∀ x ∈ A, clashM (pcM x.1 x.2) (pcM seq p) = false)
    (hroom : kn A = false → 0 < p.off → ((A.map (fun x => (x.2.dlen : Int))).sum) + p.dlen ≤ 48) (hp : 0 ≤ p.off) :
    pieceM S seq p = { S with evs := S.evs ++ (if kn (A ++ [(seq, p)]) then ⟨seq, 0, to⟩ :: (if kn A then [] else A.map (fun x => ⟨x.1, 0, to⟩)) else []), ents := if wholeM (entOf (ownerM S p) born to k (A ++ [(seq, p)])) then [] else [entOf (ownerM S p) born to k (A ++ [(seq, p)])] } := by
  obtain ⟨reps, life, now, next, slots, ents, sent, evs⟩ := S
  simp only at hS hb hsl
  obtain ⟨o, ho⟩ : ∃ o, ownerM ⟨reps, life, now, next, slots, ents, sent, evs⟩ p = o := ⟨_, rfl⟩
  rw [ho] at hS ⊢
  have hna : (pcM seq p).a = 4 * p.off := rfl
  have hnb : (pcM seq p).b = 4 * p.off + p.dlen := rfl
  have hT := taken_of ⟨reps, life, now, next, slots, ents, sent, evs⟩ o born to k p A seq ht
  by_cases hA : A = []
  · subst hA
    rw [if_pos rfl] at hS
    subst hS
    have hbn := hb rfl
    subst hbn
    have hat : atM [] p = none := rfl
    have hnew : (⟨o, p.src, p.dst, p.proto, p.id, born, [], false, 0⟩ : Ent) = entOf o born to k [] := by
      unfold entOf
      rw [hk.1, hk.2.1, hk.2.2.1, hk.2.2.2]
      rfl
    have hf : refusedM ⟨reps, life, born, next, slots, [], sent, evs⟩ none p (pcM seq p) = 0 := by
      have hB : heldB ⟨reps, life, born, next, slots, [], sent, evs⟩ o = 0 := rfl
      have h0 : entsM ⟨reps, life, born, next, slots, [], sent, evs⟩ o = [] := rfl
      unfold refusedM
      rw [ho, if_neg (by rw [hna]; intro h; exact hsl (by omega) h.2), if_neg (by rw [h0]; simp), if_neg (by simp), if_neg]
      rintro ⟨h1, _, h3⟩
      rw [hB, hna, hnb] at h3
      have := hroom rfl (by omega)
      simp at this
      omega
    unfold pieceM
    simp only [hat, Option.bind_none, hf, Option.getD_none, ho]
    rw [if_neg (by simp)]
    simp only [List.nil_append, List.length_nil, List.getElem?_cons_zero, hnew]
    rw [hT]
    simp only [List.nil_append]
    split <;> simp [goneM]
  · rw [if_neg hA] at hS
    have hlk : likeM (entOf o born to k A) p = true := by
      unfold likeM entOf
      rw [hk.1, hk.2.1, hk.2.2.1, hk.2.2.2]
      simp
    have hat : atM ents p = some 0 := by
      rw [hS]
      unfold atM
      simp [List.range_succ, hlk]
    have hget : ents[0]? = some (entOf o born to k A) := by rw [hS]; rfl
    have hf : refusedM ⟨reps, life, now, next, slots, ents, sent, evs⟩ (some (entOf o born to k A)) p (pcM seq p) = 0 := by
      have hB : heldB ⟨reps, life, now, next, slots, ents, sent, evs⟩ o = bytesL (waitL (entOf o born to k A)) := by
        rw [heldB_eq]
        simp only
        rw [hS]
        simp [fo, entOf]
      unfold refusedM
      rw [ho, if_neg (by rw [hna]; intro h; exact hsl (by omega) h.2), if_neg (by simp), if_neg, if_neg]
      · rintro ⟨h1, h2, h3⟩
        have hkn : kn A = false := h2
        rw [hB, hna, hnb, wait_of, hkn] at h3
        simp only [Bool.false_eq_true, if_false, pcs_bytes] at h3
        have := hroom hkn (by omega)
        omega
      · simp only [Option.map_some, Option.getD_some, Bool.not_eq_true]
        rw [List.any_eq_false]
        intro q hq
        have hq' : q ∈ pcsOf A := hq
        unfold pcsOf at hq'
        rw [List.mem_map] at hq'
        obtain ⟨x, hx, rfl⟩ := hq'
        have h0 : clashM { pcM x.1 x.2 with waits := !kn A } (pcM seq p) = false := hc x hx
        rw [h0]
        decide
    unfold pieceM
    simp only [hat, Option.bind_some, hget, hf, Option.getD_some]
    rw [if_neg (by simp), hT]
    simp only
    congr 1
    split
    · rw [hS]; rfl
    · rw [hS]; rfl

end Go.Proofs.Ytajphdppmdoalaa

namespace Go.Proofs.Ytajphdppmdoalaa

/-- A piece of a flow's datagram: ports stand in the first one alone. -/
def pkAt (src dst proto id sport dport off : Int) (more : Bool) (dlen : Nat) : Pk := ⟨src, dst, proto, id, off, more, if off = 0 then sport else 0, if off = 0 then dport else 0, dlen⟩
/-- A datagram cut at some places (in units), with a last piece of t bytes. -/
def cutD (src dst proto id sport dport : Int) : Nat → List Nat → Nat → List Pk
  | u, [], t => [pkAt src dst proto id sport dport u false t]
  | u, v :: r, t => pkAt src dst proto id sport dport u true (4 * (v - u)) :: cutD src dst proto id sport dport v r t
/-- Rising. -/
def rises : Nat → List Nat → Prop
  | _, [] => True
  | u, v :: r => u < v ∧ rises v r
def lastU : Nat → List Nat → Nat
  | u, [] => u
  | _, v :: r => lastU v r
theorem last_ge (u : Nat) (r : List Nat) (h : rises u r) : u ≤ lastU u r := by
  induction r generalizing u with
  | nil => exact Nat.le_refl _
  | cons v r ih => have := ih v h.2; have := h.1; simp only [lastU]; omega
theorem cut_off (src dst proto id sport dport : Int) (u : Nat) (r : List Nat) (t : Nat) (h : rises u r) : ∀ p ∈ cutD src dst proto id sport dport u r t, (u : Int) ≤ p.off ∧ 4 * p.off + p.dlen ≤ 4 * (lastU u r : Int) + t ∧ (p.more = false → p.off = lastU u r ∧ p.dlen = t) ∧ p.src = src ∧ p.dst = dst ∧ p.proto = proto ∧ p.id = id := by
  induction r generalizing u with
  | nil =>
    intro p hp
    simp only [cutD, List.mem_singleton] at hp
    subst hp
    exact ⟨Int.le_refl _, Int.le_refl _, fun _ => ⟨rfl, rfl⟩, rfl, rfl, rfl, rfl⟩
  | cons v r ih =>
    intro p hp
    simp only [cutD, List.mem_cons] at hp
    have hl := last_ge v r h.2
    rcases hp with rfl | hp
    · refine ⟨Int.le_refl _, ?_, fun h' => by simp [pkAt] at h', rfl, rfl, rfl, rfl⟩
      have := h.1
      simp only [pkAt, lastU]
      omega
    · have := ih v h.2 p hp
      have h1 := h.1
      exact ⟨by omega, this.2⟩
theorem cut_ok (src dst proto id sport dport : Int) (u : Nat) (r : List Nat) (t : Nat) (h : rises u r) (ht : 0 < t) : ∀ p ∈ cutD src dst proto id sport dport u r t, PkOK p := by
  induction r generalizing u with
  | nil =>
    intro p hp
    simp only [cutD, List.mem_singleton] at hp
    subst hp
    exact ⟨by simp [pkAt], ht⟩
  | cons v r ih =>
    intro p hp
    simp only [cutD, List.mem_cons] at hp
    rcases hp with rfl | hp
    · have := h.1
      exact ⟨by simp [pkAt], by simp only [pkAt]; omega⟩
    · exact ih v h.2 p hp
theorem cut_sum (src dst proto id sport dport : Int) (u : Nat) (r : List Nat) (t : Nat) (h : rises u r) : (((cutD src dst proto id sport dport u r t).map (fun p => (p.dlen : Int))).sum) = 4 * (lastU u r : Int) + t - 4 * u := by
  induction r generalizing u with
  | nil => simp [cutD, pkAt, lastU]; omega
  | cons v r ih =>
    have := h.1
    simp only [cutD, List.map_cons, List.sum_cons, ih v h.2, pkAt, lastU]
    omega
theorem cut_apart (src dst proto id sport dport : Int) (u : Nat) (r : List Nat) (t : Nat) (h : rises u r) : (cutD src dst proto id sport dport u r t).Pairwise (fun p q => ∀ s s' : Nat, clashM (pcM s p) (pcM s' q) = false) := by
  induction r generalizing u with
  | nil => exact List.pairwise_singleton _ _
  | cons v r ih =>
    rw [cutD, List.pairwise_cons]
    refine ⟨?_, ih v h.2⟩
    intro q hq s s'
    have h1 := h.1
    have h2 := cut_off src dst proto id sport dport v r t h.2 q hq
    rw [clash_false]
    have ha : (pcM s (pkAt src dst proto id sport dport u true (4 * (v - u)))).b = 4 * (u : Int) + ((4 * (v - u) : Nat) : Int) := rfl
    have hb : (pcM s' q).a = 4 * q.off := rfl
    have hc : (pcM s' q).b = 4 * q.off + q.dlen := rfl
    refine ⟨.inl (by rw [ha, hb]; omega), fun he => ?_, fun _ => ⟨rfl, by rw [ha, hc]; omega⟩⟩
    have : (pcM s (pkAt src dst proto id sport dport u true (4 * (v - u)))).ends = false := rfl
    rw [this] at he
    cases he
/-- Which pieces have the end. -/
theorem ends_of (owner born to : Int) (k : Pk) (A : List (Nat × Pk)) : ((entOf owner born to k A).pcs.filter (·.ends)).getLast?.map (·.b) = ((A.filter (fun x => !x.2.more)).getLast?).map (fun x => 4 * x.2.off + (x.2.dlen : Int)) := by
  show ((pcsOf A).filter (·.ends)).getLast?.map (·.b) = _
  unfold pcsOf
  rw [List.filter_map, List.getLast?_map, Option.map_map]
  rfl
/-- An entry is whole just when all bytes are there. -/
theorem whole_of (owner born to : Int) (k : Pk) (A : List (Nat × Pk)) (E : Int) (hE : ∀ x ∈ A, x.2.more = false → 4 * x.2.off + (x.2.dlen : Int) = E) : wholeM (entOf owner born to k A) = (decide (((A.map (fun x => (x.2.dlen : Int))).sum) = E) && A.any (fun x => !x.2.more)) := by
  have hb : bytesL (entOf owner born to k A).pcs = ((A.map (fun x => (x.2.dlen : Int))).sum) := pcs_bytes A
  have hpos : 0 ≤ ((A.map (fun x => (x.2.dlen : Int))).sum) := by
    clear hE hb
    induction A with
    | nil => simp
    | cons x A ih => simp only [List.map_cons, List.sum_cons]; omega
  unfold wholeM
  rw [hb, ends_of]
  cases hl : (A.filter (fun x => !x.2.more)).getLast? with
  | none =>
    have hn := List.getLast?_eq_none_iff.1 hl
    have ha : A.any (fun x => !x.2.more) = false := by
      rw [List.any_eq_false]
      intro x hx hm
      have : x ∈ A.filter (fun x => !x.2.more) := List.mem_filter.2 ⟨hx, hm⟩
      rw [hn] at this
      cases this
    rw [ha]
    simp only [Option.map_none, Option.getD_none, Bool.and_false]
    rw [beq_eq_false_iff_ne]
    omega
  | some x =>
    have hm := List.mem_filter.1 (List.mem_of_getLast? hl)
    have ha : A.any (fun x => !x.2.more) = true := List.any_eq_true.2 ⟨x, hm.1, hm.2⟩
    rw [ha]
    have he := hE x hm.1 (by simpa using hm.2)
    simp only [Option.map_some, Option.getD_some, he, Bool.and_true]
    rfl

end Go.Proofs.Ytajphdppmdoalaa

namespace Go.Proofs.Ytajphdppmdoalaa
set_option linter.unusedVariables false

/-- Two pieces of one datagram do not clash, whichever arrivals they are. -/
def Rp (p q : Pk) : Prop := ∀ s s' : Nat, clashM (pcM s p) (pcM s' q) = false
theorem clash_symm (a b : Pc) : clashM a b = clashM b a := by
  unfold clashM
  cases a.ends <;> cases b.ends <;> simp [Bool.and_comm]
theorem Rp.symm {p q : Pk} (h : Rp p q) : Rp q p := fun s s' => by rw [clash_symm]; exact h s' s
/-- A datagram in pieces. -/
structure Dat (k : Pk) (ps : List Pk) (E : Int) : Prop where
  apart : ps.Pairwise Rp
  same : ∀ p ∈ ps, sameK k p
  pos : ∀ p ∈ ps, 0 < p.dlen ∧ 0 ≤ p.off
  last : ∀ p ∈ ps, p.more = false → 4 * p.off + (p.dlen : Int) = E
  sum : (ps.map (fun p => (p.dlen : Int))).sum = E
  ends : ∃ p ∈ ps, p.more = false
/-- Of a datagram the pieces come have come, in this order, the others (rest) not; nothing else is kept. -/
structure TI (S : Cl) (o born to : Int) (k : Pk) (ps : List Pk) (come : List (Nat × Pk)) (rest : List Pk) : Prop where
  perm : (come.map (·.2) ++ rest).Perm ps
  ents : S.ents = if come = [] ∨ rest = [] then [] else [entOf o born to k come]
theorem sum_perm {l m : List Pk} (h : l.Perm m) : (l.map (fun p => (p.dlen : Int))).sum = (m.map (fun p => (p.dlen : Int))).sum := by
  induction h with
  | nil => rfl
  | cons x _ ih => simp only [List.map_cons, List.sum_cons, ih]
  | swap x y l => simp only [List.map_cons, List.sum_cons]; omega
  | trans _ _ h1 h2 => exact h1.trans h2
theorem sum_come (come : List (Nat × Pk)) : (come.map (fun x => (x.2.dlen : Int))).sum = ((come.map (·.2)).map (fun p => (p.dlen : Int))).sum := by
  rw [List.map_map]; rfl
theorem sum_nonneg (l : List Pk) : 0 ≤ (l.map (fun p => (p.dlen : Int))).sum := by
  induction l with
  | nil => simp
  | cons x l ih => simp only [List.map_cons, List.sum_cons]; omega
theorem sum_app (l m : List Pk) : ((l ++ m).map (fun p => (p.dlen : Int))).sum = (l.map (fun p => (p.dlen : Int))).sum + (m.map (fun p => (p.dlen : Int))).sum := by
  rw [List.map_append, List.sum_append]
/-- What the pieces that are not the first have together. -/
def laterB (ps : List Pk) : Int := ((ps.filter (fun p => decide (p.off ≠ 0))).map (fun p => (p.dlen : Int))).sum
theorem later_perm {l m : List Pk} (h : l.Perm m) : laterB l = laterB m := sum_perm (h.filter _)
theorem later_app (l m : List Pk) : laterB (l ++ m) = laterB l + laterB m := by
  unfold laterB; rw [List.filter_append, sum_app]
theorem later_nonneg (l : List Pk) : 0 ≤ laterB l := sum_nonneg _
theorem later_all (l : List Pk) (h : ∀ p ∈ l, p.off ≠ 0) : laterB l = (l.map (fun p => (p.dlen : Int))).sum := by
  unfold laterB
  rw [List.filter_eq_self.2 (fun p hp => by simpa using h p hp)]
theorem kn_false {A : List (Nat × Pk)} (h : kn A = false) : ∀ p ∈ A.map (·.2), p.off ≠ 0 := by
  intro p hp
  obtain ⟨x, hx, rfl⟩ := List.mem_map.1 hp
  unfold kn at h
  rw [List.any_eq_false] at h
  simpa using h x hx
/-- A piece that has not come yet comes. -/
theorem ti_piece (S : Cl) (o born to : Int) (k : Pk) (ps : List Pk) (E : Int) (come : List (Nat × Pk)) (rest rest' : List Pk) (seq : Nat) (p : Pk) (hd : Dat k ps E) (h : TI S o born to k ps come rest) (hr : rest.Perm (p :: rest')) (ho : ownerM S p = o)
    (hb : come = [] → born = S.now) (ht : p.off = 0 → chosenM S p = to) (hsl : p.off = 0 → S.slots ≠ []) (hroom : kn come = false → 0 < p.off → laterB ps ≤ 48) :
    TI (pieceM S seq p) o born to k ps (come ++ [(seq, p)]) rest' ∧ (pieceM S seq p).evs = S.evs ++ (if kn (come ++ [(seq, p)]) then ⟨seq, 0, to⟩ :: (if kn come then [] else come.map (fun x => ⟨x.1, 0, to⟩)) else []) := by
  have hrne : rest ≠ [] := by
    rintro rfl
    have := hr.length_eq
    simp at this
  have hperm : (come.map (·.2) ++ p :: rest').Perm ps := (List.Perm.append_left _ hr.symm).trans h.perm
  have hpm : p ∈ ps := hperm.mem_iff.1 (by simp)
  have hpw := (hperm.pairwise_iff (fun {a b} (hab : Rp a b) => hab.symm)).2 hd.apart
  rw [List.pairwise_append] at hpw
  have hsum := sum_perm hperm
  rw [hd.sum, sum_app] at hsum
  simp only [List.map_cons, List.sum_cons] at hsum
  have hpp := hd.pos p hpm
  have hS : S.ents = if come = [] then [] else [entOf (ownerM S p) born to k come] := by
    rw [h.ents, ho]
    by_cases hc : come = []
    · rw [if_pos (.inl hc), if_pos hc]
    · rw [if_neg (fun hh => hh.elim hc hrne), if_neg hc]
  have key := piece_of S born to k p come seq (hd.same p hpm) hS hb ht hsl ?_ ?_ hpp.2
  · have hE : ∀ x ∈ come ++ [(seq, p)], x.2.more = false → 4 * x.2.off + (x.2.dlen : Int) = E := by
      intro x hx hm
      refine hd.last x.2 (hperm.mem_iff.1 ?_) hm
      rcases List.mem_append.1 hx with hx | hx
      · exact List.mem_append_left _ (List.mem_map_of_mem hx)
      · rw [List.mem_singleton.1 hx]
        simp
    have hw := whole_of o born to k (come ++ [(seq, p)]) E hE
    have hperm' : ((come ++ [(seq, p)]).map (·.2) ++ rest').Perm ps := by
      rw [List.map_append, List.append_assoc]
      exact hperm
    rw [ho] at key
    refine ⟨⟨hperm', ?_⟩, by rw [key]⟩
    rw [key]
    simp only
    by_cases hr0 : rest' = []
    · subst hr0
      rw [if_pos (c := come ++ [(seq, p)] = [] ∨ ([] : List Pk) = []) (.inr rfl)]
      refine if_pos ?_
      rw [hw, Bool.and_eq_true, decide_eq_true_eq]
      refine ⟨?_, ?_⟩
      · rw [sum_come, List.map_append, sum_app]
        simp at hsum ⊢
        omega
      · obtain ⟨q, hq, hqm⟩ := hd.ends
        have : q ∈ (come ++ [(seq, p)]).map (·.2) := by
          have := hperm'.mem_iff.2 hq
          simpa using this
        obtain ⟨x, hx, rfl⟩ := List.mem_map.1 this
        exact List.any_eq_true.2 ⟨x, hx, by rw [hqm]; rfl⟩
    · have hc : come ++ [(seq, p)] ≠ [] := by simp
      rw [if_neg (c := come ++ [(seq, p)] = [] ∨ rest' = []) (fun hh => hh.elim hc hr0)]
      refine if_neg ?_
      rw [hw]
      intro hh
      rw [Bool.and_eq_true, decide_eq_true_eq] at hh
      have h1 := hh.1
      rw [sum_come, List.map_append, sum_app] at h1
      simp only [List.map_cons, List.map_nil, List.sum_cons, List.sum_nil] at h1
      obtain ⟨q, r', rfl⟩ := List.exists_cons_of_ne_nil hr0
      have hq := hd.pos q (hperm.mem_iff.1 (by simp))
      have hn := sum_nonneg r'
      simp only [List.map_cons, List.sum_cons] at hsum
      omega
  · intro x hx
    exact hpw.2.2 x.2 (List.mem_map_of_mem hx) p (List.mem_cons_self ..) x.1 seq
  · intro hk hp0
    have hl := hroom hk hp0
    rw [← later_perm hperm, later_app, show p :: rest' = [p] ++ rest' from rfl, later_app] at hl
    have h1 := later_all (come.map (·.2)) (kn_false hk)
    have h2 := later_all [p] (by intro q hq; rw [List.mem_singleton.1 hq]; omega)
    have h3 := later_nonneg rest'
    rw [sum_come, ← h1]
    simp at h2
    omega
/-- A piece that has come, sent once more while the datagram is not whole, overlaps. -/
theorem ti_again (S : Cl) (o born to : Int) (k : Pk) (ps : List Pk) (E : Int) (come : List (Nat × Pk)) (rest : List Pk) (seq : Nat) (p : Pk) (hd : Dat k ps E) (h : TI S o born to k ps come rest) (hrne : rest ≠ []) (hp : p ∈ come.map (·.2)) (hsl : S.slots ≠ []) :
    pieceM S seq p = toldM S seq 3 0 := by
  obtain ⟨x, hx, rfl⟩ := List.mem_map.1 hp
  have hc : come ≠ [] := by rintro rfl; cases hx
  have hpm : x.2 ∈ ps := h.perm.mem_iff.1 (List.mem_append_left _ hp)
  have hpp := hd.pos x.2 hpm
  have hen : S.ents = [entOf o born to k come] := by rw [h.ents, if_neg (fun hh => hh.elim hc hrne)]
  have hk := hd.same x.2 hpm
  have hlk : likeM (entOf o born to k come) x.2 = true := by
    unfold likeM entOf
    rw [hk.1, hk.2.1, hk.2.2.1, hk.2.2.2]
    simp
  have hat : atM S.ents x.2 = some 0 := by
    rw [hen]
    unfold atM
    simp [List.range_succ, hlk]
  have hget : S.ents[0]? = some (entOf o born to k come) := by rw [hen]; rfl
  have hcl : (entOf o born to k come).pcs.any (fun q => clashM q (pcM seq x.2)) = true := by
    refine List.any_eq_true.2 ⟨{ pcM x.1 x.2 with waits := !kn come }, ?_, ?_⟩
    · exact List.mem_map.2 ⟨x, hx, rfl⟩
    · unfold clashM
      have h1 : (4 * x.2.off : Int) < 4 * x.2.off + x.2.dlen := by omega
      simp only [pcM, Bool.or_eq_true, Bool.and_eq_true]
      exact .inl (.inl ⟨decide_eq_true h1, decide_eq_true h1⟩)
  have hf : refusedM S (some (entOf o born to k come)) x.2 (pcM seq x.2) = 3 := by
    unfold refusedM
    rw [if_neg (fun hh => hsl hh.2), if_neg (by simp), if_pos]
    simpa using hcl
  unfold pieceM
  simp only [hat, Option.bind_some, hget, hf]
  rw [if_pos (by decide)]
theorem cut_dat (src dst proto id sport dport : Int) (u : Nat) (r : List Nat) (t : Nat) (hu : u = 0) (h : rises u r) (ht : 0 < t) (k : Pk) (hk : k.src = src ∧ k.dst = dst ∧ k.proto = proto ∧ k.id = id) : Dat k (cutD src dst proto id sport dport u r t) (4 * (lastU u r : Int) + t) := by
  subst hu
  have hoff := cut_off src dst proto id sport dport 0 r t h
  have hok := cut_ok src dst proto id sport dport 0 r t h ht
  refine ⟨cut_apart src dst proto id sport dport 0 r t h, fun p hp => ?_, fun p hp => ?_, fun p hp hm => ?_, ?_, ?_⟩
  · obtain ⟨_, _, _, h1, h2, h3, h4⟩ := hoff p hp
    exact ⟨hk.1.trans h1.symm, hk.2.1.trans h2.symm, hk.2.2.1.trans h3.symm, hk.2.2.2.trans h4.symm⟩
  · have h1 := hok p hp
    exact ⟨h1.2, h1.1⟩
  · obtain ⟨_, _, h1, _⟩ := hoff p hp
    rw [(h1 hm).1, (h1 hm).2]
  · rw [cut_sum src dst proto id sport dport 0 r t h]
    simp
  · clear h ht hok hoff
    generalize 0 = u
    induction r generalizing u with
    | nil => exact ⟨_, List.mem_singleton.2 rfl, rfl⟩
    | cons v r ih =>
      obtain ⟨p, hp, hm⟩ := ih v
      exact ⟨p, List.mem_cons_of_mem _ hp, hm⟩

end Go.Proofs.Ytajphdppmdoalaa

namespace Go.Proofs.Ytajphdppmdoalaa
set_option linter.unusedVariables false

theorem TI.next {S : Cl} {o born to : Int} {k : Pk} {ps : List Pk} {come : List (Nat × Pk)} {rest : List Pk} (h : TI S o born to k ps come rest) (n : Nat) : TI { S with next := n } o born to k ps come rest := ⟨h.perm, h.ents⟩
/-- A piece comes behind the first one, or is the first one. -/
theorem ti_next (S : Cl) (o born to : Int) (k : Pk) (ps : List Pk) (E : Int) (come : List (Nat × Pk)) (rest' : List Pk) (seq : Nat) (p : Pk) (hd : Dat k ps E) (h : TI S o born to k ps come (p :: rest')) (ho : ownerM S p = o)
    (hk : kn come = true ∨ come = [] ∧ p.off = 0 ∧ born = S.now ∧ chosenM S p = to ∧ S.slots ≠ []) (hp0 : p.off = 0 → come = []) :
    TI (pieceM S seq p) o born to k ps (come ++ [(seq, p)]) rest' ∧ (pieceM S seq p).evs = S.evs ++ [⟨seq, 0, to⟩] ∧ kn (come ++ [(seq, p)]) = true := by
  have hc : kn come = true → come ≠ [] := by rintro h1 rfl; cases h1
  have hkk : kn (come ++ [(seq, p)]) = true := by
    rw [kn_snoc]
    rcases hk with hk | ⟨_, h0, _⟩
    · rw [hk]; rfl
    · rw [decide_eq_true h0, Bool.or_true]
  have key := ti_piece S o born to k ps E come (p :: rest') rest' seq p hd h (List.Perm.refl _) ho ?_ ?_ ?_ ?_
  · obtain ⟨h1, h2⟩ := key
    refine ⟨h1, ?_, hkk⟩
    rw [h2, if_pos hkk]
    rcases hk with hk | ⟨rfl, _⟩
    · rw [if_pos hk]
    · rfl
  · intro hc0
    rcases hk with hk | ⟨_, _, hb, _⟩
    · exact absurd hc0 (hc hk)
    · exact hb
  · intro h0
    rcases hk with hk | ⟨_, _, _, ht, _⟩
    · exact absurd (hp0 h0) (hc hk)
    · exact ht
  · intro h0
    rcases hk with hk | ⟨_, _, _, _, hs⟩
    · exact absurd (hp0 h0) (hc hk)
    · exact hs
  · intro hkf hpo
    rcases hk with hk | ⟨_, h0, _⟩
    · rw [hk] at hkf; cases hkf
    · omega
/-- Bytes of a piece arrive at its owner. -/
theorem arrive_come (S : Cl) (rep : Int) (p : Pk) (hw : wholePk p = false) (ho : ownerM S p = rep) : arriveM S rep (some p) = pieceM { S with next := S.next + 1 } S.next p := by
  unfold arriveM
  simp only [hw, Bool.false_eq_true, if_false]
  rw [if_pos ho]
theorem arrive_away (S : Cl) (rep : Int) (p : Pk) (hw : wholePk p = false) (ho : ownerM S p ≠ rep) : arriveM S rep (some p) = { S with next := S.next + 1, sent := S.sent ++ [⟨S.next, rep, ownerM S p, p⟩] } := by
  unfold arriveM
  simp only [hw, Bool.false_eq_true, if_false]
  rw [if_neg ho]
theorem last_pos (u : Nat) (r : List Nat) (h : rises u r) (hr : r ≠ []) : u < lastU u r := by
  cases r with
  | nil => exact absurd rfl hr
  | cons v r => have := last_ge v r h.2; have := h.1; simp only [lastU]; omega
theorem cut_pieces (src dst proto id sport dport : Int) (r : List Nat) (t : Nat) (h : rises 0 r) (hr : r ≠ []) : ∀ p ∈ cutD src dst proto id sport dport 0 r t, wholePk p = false := by
  intro p hp
  obtain ⟨h0, _, h1, _⟩ := cut_off src dst proto id sport dport 0 r t h p hp
  have hl := last_pos 0 r h hr
  unfold wholePk
  cases hm : p.more with
  | true => simp
  | false =>
    have := (h1 hm).1
    rw [decide_eq_false (by omega)]
    rfl
/-- The first piece is the first, and no other begins at 0. -/
theorem cut_first (src dst proto id sport dport : Int) (u : Nat) (r : List Nat) (t : Nat) (h : rises u r) : ∃ p ps', cutD src dst proto id sport dport u r t = p :: ps' ∧ p.off = u ∧ ∀ q ∈ ps', (u : Int) < q.off := by
  cases r with
  | nil => exact ⟨_, [], rfl, rfl, by simp⟩
  | cons v r =>
    refine ⟨_, _, rfl, rfl, fun q hq => ?_⟩
    have := (cut_off src dst proto id sport dport v r t h.2 q hq).1
    have := h.1
    omega
theorem TI.slots {S S' : Cl} {o born to : Int} {k : Pk} {ps : List Pk} {come : List (Nat × Pk)} {rest : List Pk} (h : TI S o born to k ps come rest) (he : S'.ents = S.ents) : TI S' o born to k ps come rest := ⟨h.perm, by rw [he]; exact h.ents⟩
/-- Of a datagram that is whole nothing is kept: it may come again. -/
theorem TI.anew {S : Cl} {o born to : Int} {k : Pk} {ps : List Pk} {come : List (Nat × Pk)} (h : TI S o born to k ps come []) (born' to' : Int) : TI S o born' to' k ps [] ps := ⟨List.Perm.refl _, by rw [h.ents, if_pos (.inr rfl), if_pos (.inl rfl)]⟩
theorem TI.start (S : Cl) (he : S.ents = []) (o born to : Int) (k : Pk) (ps : List Pk) : TI S o born to k ps [] ps := ⟨List.Perm.refl _, by rw [he, if_pos (.inl rfl)]⟩

end Go.Proofs.Ytajphdppmdoalaa

namespace Go.Proofs.Ytajphdppmdoalaa
set_option linter.unusedVariables false

theorem TI.cong {S : Cl} {o born to : Int} {k : Pk} {ps : List Pk} {come : List (Nat × Pk)} {rest rest' : List Pk} (h : TI S o born to k ps come rest) (hr : rest.Perm rest') : TI S o born to k ps come rest' := by
  refine ⟨(List.Perm.append_left _ hr.symm).trans h.perm, ?_⟩
  rw [h.ents]
  have hiff : rest = [] ↔ rest' = [] := by
    constructor
    · rintro rfl
      exact List.nil_perm.1 hr
    · rintro rfl
      exact List.perm_nil.1 hr
  by_cases hc : come = [] ∨ rest = []
  · rw [if_pos hc, if_pos (hc.imp id hiff.1)]
  · rw [if_neg hc, if_neg (fun hh => hc (hh.imp id hiff.2))]
def evT (tb : Int) (come : List (Nat × Pk)) : List Ev := if kn come then come.map (fun x => ⟨x.1, 0, tb⟩) else []
/-- All that a cluster has of one datagram, whose pieces come in any order: U have not arrived; ex was told besides. -/
structure TgS (N o : Nat) (tb : Int) (k : Pk) (slots : List Int) (ps U : List Pk) (nx : Nat) (ex : List Ev) (come : List (Nat × Pk)) (S : Cl) : Prop where
  good : Good S
  reps : S.reps = (N : Int)
  now : S.now = 0
  slots : S.slots = slots
  next : S.next = nx
  seqs : (come.map (·.1) ++ S.sent.map (·.seq)).Perm (List.range (come.length + S.sent.length))
  cnt : nx = come.length + S.sent.length + ex.length
  ti : TI S o 0 tb k ps come (S.sent.map (·.p) ++ U)
  evs : S.evs.Perm (ex ++ evT tb come)
theorem evs_come (tb : Int) (come : List (Nat × Pk)) (seq : Nat) (p : Pk) (ex evs : List Ev) (h : evs.Perm (ex ++ evT tb come)) :
    (evs ++ (if kn (come ++ [(seq, p)]) then (⟨seq, 0, tb⟩ : Ev) :: (if kn come then [] else come.map (fun x => (⟨x.1, 0, tb⟩ : Ev))) else [])).Perm (ex ++ evT tb (come ++ [(seq, p)])) := by
  refine (List.Perm.append_right _ h).trans ?_
  rw [List.append_assoc]
  refine List.Perm.append_left _ ?_
  unfold evT
  by_cases h1 : kn come = true
  · have h2 : kn (come ++ [(seq, p)]) = true := by rw [kn_snoc, h1]; rfl
    rw [if_pos h1, if_pos h2, if_pos h2, if_pos h1, List.map_append]
    exact List.Perm.refl _
  · rw [if_neg h1]
    by_cases h2 : kn (come ++ [(seq, p)]) = true
    · rw [if_pos h2, if_pos h2, if_neg h1, List.nil_append, List.map_append]
      exact (List.perm_append_comm (l₁ := [_]))
    · rw [if_neg h2, if_neg h2]
      exact List.Perm.refl _
/-- What is known of the pieces themselves. -/
structure TgF (N o : Nat) (tb : Int) (k : Pk) (slots : List Int) (ps : List Pk) (E : Int) : Prop where
  dat : Dat k ps E
  piece : ∀ p ∈ ps, wholePk p = false
  own : ∀ p ∈ ps, dgH p.src p.dst p.proto p.id % (N : Int) = (o : Int)
  ne : slots ≠ []
  cho : ∀ p ∈ ps, p.off = 0 → slots.getD ((flH p.src p.dst p.proto p.sport p.dport).toNat % 31) 0 = tb
  room : laterB ps ≤ 48
/-- A piece comes to its owner. -/
theorem tg_come (N o : Nat) (tb : Int) (k : Pk) (slots : List Int) (ps : List Pk) (E : Int) (hf : TgF N o tb k slots ps E) (S : Cl) (come : List (Nat × Pk)) (rest rest' : List Pk) (seq : Nat) (p : Pk) (hti : TI S o 0 tb k ps come rest) (hr : rest.Perm (p :: rest')) (hreps : S.reps = (N : Int)) (hnow : S.now = 0) (hsl : S.slots = slots) :
    TI (pieceM S seq p) o 0 tb k ps (come ++ [(seq, p)]) rest' ∧ (pieceM S seq p).evs = S.evs ++ (if kn (come ++ [(seq, p)]) then ⟨seq, 0, tb⟩ :: (if kn come then [] else come.map (fun x => ⟨x.1, 0, tb⟩)) else []) := by
  have hpm : p ∈ ps := hti.perm.mem_iff.1 (List.mem_append_right _ (hr.mem_iff.2 (List.mem_cons_self ..)))
  refine ti_piece S o 0 tb k ps E come rest rest' seq p hf.dat hti hr ?_ (fun _ => hnow.symm) (fun h0 => ?_) (fun _ => by rw [hsl]; exact hf.ne) (fun _ _ => hf.room)
  · unfold ownerM
    rw [hreps]
    exact hf.own p hpm
  · unfold chosenM
    rw [hsl]
    exact hf.cho p hpm h0
theorem own_tg {N o : Nat} {tb : Int} {k : Pk} {slots : List Int} {ps : List Pk} {E : Int} (hf : TgF N o tb k slots ps E) (S : Cl) (hr : S.reps = (N : Int)) (p : Pk) (hp : p ∈ ps) : ownerM S p = (o : Int) := by
  unfold ownerM
  rw [hr]
  exact hf.own p hp
theorem range_snoc_perm (A B : List Nat) (n : Nat) (h : (A ++ B).Perm (List.range n)) : ((A ++ [n]) ++ B).Perm (List.range (n + 1)) := by
  rw [List.range_succ]
  rw [List.perm_iff_count] at *
  intro a
  have := h a
  simp only [List.count_append, List.count_cons, List.count_nil] at *
  omega
theorem range_snoc_perm2 (A B : List Nat) (n : Nat) (h : (A ++ B).Perm (List.range n)) : (A ++ (B ++ [n])).Perm (List.range (n + 1)) := by
  rw [List.range_succ, ← List.append_assoc]
  exact List.Perm.append_right _ h
/-- A piece arrives. -/
theorem tg_arrive (N o : Nat) (tb : Int) (k : Pk) (slots : List Int) (ps : List Pk) (E : Int) (hf : TgF N o tb k slots ps E) (S : Cl) (come : List (Nat × Pk)) (U U' : List Pk) (nx : Nat) (p : Pk) (rep : Int) (h : TgS N o tb k slots ps U nx [] come S) (hU : U.Perm (p :: U')) (hg : Good (arriveM S rep (some p))) :
    ∃ come', TgS N o tb k slots ps U' (nx + 1) [] come' (arriveM S rep (some p)) := by
  have hpm : p ∈ ps := h.ti.perm.mem_iff.1 (List.mem_append_right _ (List.mem_append_right _ (hU.mem_iff.2 (List.mem_cons_self ..))))
  have hw := hf.piece p hpm
  have hown := own_tg hf S h.reps p hpm
  have hcnt : nx = come.length + S.sent.length := h.cnt
  by_cases ho : (o : Int) = rep
  · have har := arrive_come S rep p hw (hown.trans ho)
    rw [har] at hg ⊢
    have hrest : (S.sent.map (·.p) ++ U).Perm (p :: (S.sent.map (·.p) ++ U')) := (List.Perm.append_left _ hU).trans List.perm_middle
    obtain ⟨t1, t2⟩ := tg_come N o tb k slots ps E hf { S with next := S.next + 1 } come _ _ S.next p (h.ti.next _) hrest h.reps h.now h.slots
    have hsm := piece_same { S with next := S.next + 1 } S.next p
    have hss : (pieceM { S with next := S.next + 1 } S.next p).sent = S.sent := hsm.2.2.2.2.2
    refine ⟨come ++ [(S.next, p)], hg, hsm.1.trans h.reps, hsm.2.2.1.trans h.now, hsm.2.2.2.2.1.trans h.slots, ?_, ?_, ?_, ?_, ?_⟩
    · rw [hsm.2.2.2.1]
      show S.next + 1 = nx + 1
      rw [h.next]
    · rw [hss, List.map_append, List.length_append, h.next, hcnt]
      have := range_snoc_perm _ _ _ h.seqs
      rw [show come.length + [(come.length + S.sent.length, p)].length + S.sent.length = come.length + S.sent.length + 1 by simp; omega]
      exact this
    · rw [hss]
      simp
      omega
    · rw [hss]
      exact t1
    · rw [t2]
      exact evs_come tb come S.next p [] S.evs h.evs
  · have har := arrive_away S rep p hw (by rw [hown]; exact ho)
    rw [har] at hg ⊢
    refine ⟨come, hg, h.reps, h.now, h.slots, ?_, ?_, ?_, ?_, h.evs⟩
    · show S.next + 1 = nx + 1
      rw [h.next]
    · show (come.map (·.1) ++ (S.sent ++ [(⟨S.next, rep, ownerM S p, p⟩ : Snt)]).map Snt.seq).Perm (List.range (come.length + (S.sent ++ [(⟨S.next, rep, ownerM S p, p⟩ : Snt)]).length))
      rw [List.map_append, List.length_append]
      show (come.map (·.1) ++ (S.sent.map Snt.seq ++ [S.next])).Perm (List.range (come.length + (S.sent.length + 1)))
      rw [← Nat.add_assoc]
      rw [h.next, hcnt]
      exact range_snoc_perm2 _ _ _ h.seqs
    · show nx + 1 = come.length + (S.sent ++ [(⟨S.next, rep, ownerM S p, p⟩ : Snt)]).length + 0
      rw [List.length_append]
      simp
      omega
    · refine (h.ti.slots (S' := { S with next := S.next + 1, sent := S.sent ++ [⟨S.next, rep, ownerM S p, p⟩] }) rfl).cong ?_
      show (S.sent.map Snt.p ++ U).Perm ((S.sent ++ [(⟨S.next, rep, ownerM S p, p⟩ : Snt)]).map Snt.p ++ U')
      rw [List.map_append, List.append_assoc]
      exact List.Perm.append_left _ hU
/-- A whole packet of the flow arrives. -/
theorem tg_whole (N o : Nat) (tb : Int) (k : Pk) (slots : List Int) (ps : List Pk) (E : Int) (hf : TgF N o tb k slots ps E) (S : Cl) (come : List (Nat × Pk)) (U : List Pk) (nx : Nat) (p : Pk) (rep : Int) (h : TgS N o tb k slots ps U nx [] come S) (hw : wholePk p = true) (hc : chosenM S p = tb) (hg : Good (arriveM S rep (some p))) :
    TgS N o tb k slots ps U (nx + 1) [⟨nx, 0, tb⟩] come (arriveM S rep (some p)) := by
  have har : arriveM S rep (some p) = toldM { S with next := S.next + 1 } S.next 0 tb := by
    unfold arriveM
    simp only [hw, if_true]
    rw [if_neg (by rw [h.slots]; exact hf.ne), hc]
  rw [har] at hg ⊢
  refine ⟨hg, h.reps, h.now, h.slots, ?_, h.seqs, ?_, h.ti.slots rfl, ?_⟩
  · show S.next + 1 = nx + 1
    rw [h.next]
  · have := h.cnt
    show nx + 1 = come.length + S.sent.length + 1
    simp at this
    omega
  · show (S.evs ++ [(⟨S.next, 0, tb⟩ : Ev)]).Perm ([(⟨nx, 0, tb⟩ : Ev)] ++ evT tb come)
    rw [h.next]
    exact List.perm_append_comm.trans (List.Perm.append_left _ h.evs)
/-- One that is on its way comes in. -/
theorem tg_deliver (N o : Nat) (tb : Int) (k : Pk) (slots : List Int) (ps : List Pk) (E : Int) (hf : TgF N o tb k slots ps E) (S : Cl) (come : List (Nat × Pk)) (U : List Pk) (nx : Nat) (ex : List Ev) (j : Nat) (h : TgS N o tb k slots ps U nx ex come S) (hj : j < S.sent.length) (hg : Good (deliverM S j)) :
    ∃ come', TgS N o tb k slots ps U nx ex come' (deliverM S j) ∧ (deliverM S j).sent.length + 1 = S.sent.length := by
  obtain ⟨s, hs⟩ : ∃ s, S.sent[j]? = some s := ⟨_, List.getElem?_eq_getElem hj⟩
  have hdl : deliverM S j = pieceM (landM S j) s.seq s.p := by
    unfold deliverM
    rw [hs]
  rw [hdl] at hg ⊢
  have hsp : S.sent.Perm (s :: (landM S j).sent) := by
    conv => lhs; rw [split_at S.sent j s hs]
    exact List.perm_middle
  have hrest : (S.sent.map (·.p) ++ U).Perm (s.p :: ((landM S j).sent.map (·.p) ++ U)) := List.Perm.append_right U (hsp.map (·.p))
  have hlen := hsp.length_eq
  simp only [List.length_cons] at hlen
  obtain ⟨t1, t2⟩ := tg_come N o tb k slots ps E hf (landM S j) come _ _ s.seq s.p (h.ti.slots rfl) hrest h.reps h.now h.slots
  have hsm := piece_same (landM S j) s.seq s.p
  have hss := hsm.2.2.2.2.2
  refine ⟨come ++ [(s.seq, s.p)], ⟨hg, hsm.1.trans h.reps, hsm.2.2.1.trans h.now, hsm.2.2.2.2.1.trans h.slots, hsm.2.2.2.1.trans h.next, ?_, ?_, ?_, ?_⟩, by rw [hss]; omega⟩
  · rw [hss, List.map_append, List.length_append]
    have h1 : (come.length + [(s.seq, s.p)].length + (landM S j).sent.length) = come.length + S.sent.length := by simp; omega
    rw [h1]
    refine List.Perm.trans ?_ h.seqs
    rw [List.append_assoc]
    refine List.Perm.append_left _ ?_
    exact (hsp.map (·.seq)).symm
  · rw [hss]
    have := h.cnt
    simp
    omega
  · rw [hss]
    exact t1
  · rw [t2]
    exact evs_come tb come s.seq s.p ex S.evs h.evs
/-- All have come. -/
theorem tg_end (N o : Nat) (tb : Int) (k : Pk) (slots : List Int) (ps : List Pk) (E : Int) (hf : TgF N o tb k slots ps E) (S : Cl) (come : List (Nat × Pk)) (nx m : Nat) (h : TgS N o tb k slots ps [] nx [⟨m, 0, tb⟩] come S) (hs : S.sent = []) (hm : nx = m + 1) (h0 : ∃ p ∈ ps, p.off = 0) :
    S.ents = [] ∧ S.evs.length = m + 1 ∧ (∀ v ∈ S.evs, v.seq ≤ m ∧ v.fate = 0 ∧ v.whr = tb) ∧ (S.evs.map Ev.seq).Nodup := by
  have hti := h.ti
  rw [hs] at hti
  have hseq := h.seqs
  rw [hs] at hseq
  simp only [List.map_nil, List.append_nil, List.length_nil, Nat.add_zero] at hseq
  have hcl : come.length = m := by
    have := h.cnt
    rw [hs] at this
    simp at this
    omega
  rw [hcl] at hseq
  have hkn : kn come = true := by
    obtain ⟨p, hp, hp0⟩ := h0
    have hpc := hti.perm.mem_iff.2 hp
    simp only [List.map_nil, List.append_nil] at hpc
    obtain ⟨x, hx, rfl⟩ := List.mem_map.1 hpc
    exact List.any_eq_true.2 ⟨x, hx, decide_eq_true hp0⟩
  have hev : S.evs.Perm (⟨m, 0, tb⟩ :: come.map (fun x => ⟨x.1, 0, tb⟩)) := by
    have := h.evs
    unfold evT at this
    rw [if_pos hkn] at this
    exact this
  have hsq : (S.evs.map Ev.seq).Perm (m :: List.range m) := by
    refine (hev.map Ev.seq).trans ?_
    simp only [List.map_cons, List.map_map]
    exact List.Perm.cons _ hseq
  refine ⟨?_, ?_, ?_, ?_⟩
  · rw [hti.ents]
    exact if_pos (.inr rfl)
  · rw [hev.length_eq]
    simp [hcl]
  · intro v hv
    have hv' := hev.mem_iff.1 hv
    have hvs : v.seq ∈ m :: List.range m := hsq.mem_iff.1 (List.mem_map_of_mem hv)
    refine ⟨?_, ?_⟩
    · rcases List.mem_cons.1 hvs with h1 | h1
      · omega
      · have := List.mem_range.1 h1
        omega
    · rcases List.mem_cons.1 hv' with rfl | h1
      · exact ⟨rfl, rfl⟩
      · obtain ⟨x, _, rfl⟩ := List.mem_map.1 h1
        exact ⟨rfl, rfl⟩
  · rw [hsq.nodup_iff, List.nodup_cons]
    exact ⟨by simp, List.nodup_range⟩
/-- The pieces that have not arrived. -/
def Uof (ps : List Pk) (arr : List Nat) : List Pk := ((List.range ps.length).filter (fun j => decide (j ∉ arr))).filterMap (fun j => ps[j]?)
theorem range_get {α : Type} (l : List α) : (List.range l.length).filterMap (fun j => l[j]?) = l := by
  induction l with
  | nil => rfl
  | cons a l ih =>
    rw [List.length_cons, List.range_succ_eq_map, List.filterMap_cons]
    simp only [List.getElem?_cons_zero, List.filterMap_map]
    congr 1
theorem Uof_nil (ps : List Pk) : Uof ps [] = ps := by
  unfold Uof
  rw [List.filter_eq_self.2 (by simp)]
  exact range_get ps
theorem Uof_all (ps : List Pk) (arr : List Nat) (h : ∀ j, j < ps.length → j ∈ arr) : Uof ps arr = [] := by
  unfold Uof
  rw [List.filter_eq_nil_iff.2 (fun j hj => by simpa using h j (List.mem_range.1 hj))]
  rfl
theorem Uof_step (ps : List Pk) (arr : List Nat) (k : Nat) (p : Pk) (hk : ps[k]? = some p) (hn : k ∉ arr) : (Uof ps arr).Perm (p :: Uof ps (arr ++ [k])) := by
  have hkl := (List.getElem?_eq_some_iff.1 hk).1
  have key : ((List.range ps.length).filter (fun j => decide (j ∉ arr))).Perm (k :: (List.range ps.length).filter (fun j => decide (j ∉ arr ++ [k]))) := by
    have hnd := List.nodup_range (n := ps.length)
    have hnd2 : (k :: (List.range ps.length).filter (fun j => decide (j ∉ arr ++ [k]))).Nodup := by
      rw [List.nodup_cons]
      exact ⟨fun hh => by have := (List.mem_filter.1 hh).2; simp at this, hnd.filter _⟩
    rw [List.perm_ext_iff_of_nodup (hnd.filter _) hnd2]
    intro a
    rw [List.mem_cons, List.mem_filter, List.mem_filter, List.mem_range, decide_eq_true_eq, decide_eq_true_eq, List.mem_append, List.mem_singleton]
    constructor
    · rintro ⟨h1, h2⟩
      by_cases hak : a = k
      · exact .inl hak
      · exact .inr ⟨h1, fun hh => hh.elim h2 hak⟩
    · rintro (rfl | ⟨h1, h2⟩)
      · exact ⟨hkl, hn⟩
      · exact ⟨h1, fun hh => h2 (.inl hh)⟩
  have := key.filterMap (fun j => ps[j]?)
  rw [List.filterMap_cons, hk] at this
  exact this

end Go.Proofs.Ytajphdppmdoalaa
