import Derived.Laws.BitsAllLaws
import Derived.WalkKit
namespace Go.Proofs.YtajphdppmdoalaaGreat

/-- One byte more into a hash. -/
def hshx (h z : Int) : Int := (((h.toNat ^^^ z.toNat : Nat) : Int) * 16777619) % 4294967296
def hsh (zs : List Int) : Int := zs.foldl hshx 2166136261
theorem hshx_bd (h z : Int) : 0 ≤ hshx h z ∧ hshx h z ≤ 4294967295 := by unfold hshx; omega
theorem foldl_bd (zs : List Int) : ∀ h : Int, 0 ≤ h ∧ h ≤ 4294967295 → 0 ≤ zs.foldl hshx h ∧ zs.foldl hshx h ≤ 4294967295 := by
  induction zs with
  | nil => intro h hh; exact hh
  | cons z zs ih => intro h _; exact ih _ (hshx_bd h z)
theorem hsh_bd (zs : List Int) : 0 ≤ hsh zs ∧ hsh zs ≤ 4294967295 := foldl_bd zs _ (by omega)
def hshK (zs : List Int) (k : Nat) : Int := hsh (zs.take k)
theorem hshK_bd (zs : List Int) (k : Nat) : 0 ≤ hshK zs k ∧ hshK zs k ≤ 4294967295 := hsh_bd _
theorem hshK_succ (zs : List Int) (k : Nat) (hk : k < zs.length) : hshK zs (k + 1) = hshx (hshK zs k) (zs.getD k 0) := by
  unfold hshK hsh
  rw [List.take_add_one, List.foldl_append, List.getElem?_eq_getElem hk, List.getD_eq_getElem?_getD, List.getElem?_eq_getElem hk]
  rfl
theorem hshK_all (zs : List Int) : hshK zs zs.length = hsh zs := by rw [hshK, List.take_length]

/-- The document's exclusive or, bit by bit. -/
def eiK (low c : Int) (k : Nat) : Int := (((low.toNat ^^^ c.toNat) % 2 ^ k : Nat) : Int)
theorem eiK_succ (low c : Int) (k : Nat) (h0 : 0 ≤ low) (c0 : 0 ≤ c) : eiK low c (k + 1) = if low / (2 ^ k : Nat) % 2 = c / (2 ^ k : Nat) % 2 then eiK low c k else eiK low c k + (2 ^ k : Nat) := by
  obtain ⟨x, rfl⟩ := Int.eq_ofNat_of_zero_le h0
  obtain ⟨y, rfl⟩ := Int.eq_ofNat_of_zero_le c0
  unfold eiK
  simp only [Int.toNat_natCast]
  rw [Nat.mod_pow_succ]
  have hb : (x ^^^ y) / 2 ^ k % 2 = if x / 2 ^ k % 2 = y / 2 ^ k % 2 then 0 else 1 := by
    have h := Nat.testBit_xor x y k
    simp only [Nat.testBit_eq_decide_div_mod_eq] at h
    have h1 := Nat.mod_two_eq_zero_or_one (x / 2 ^ k)
    have h2 := Nat.mod_two_eq_zero_or_one (y / 2 ^ k)
    have h3 := Nat.mod_two_eq_zero_or_one ((x ^^^ y) / 2 ^ k)
    rcases h1 with h1 | h1 <;> rcases h2 with h2 | h2 <;> rcases h3 with h3 | h3 <;> simp_all
  rw [hb]
  by_cases hc : x / 2 ^ k % 2 = y / 2 ^ k % 2
  · rw [if_pos hc, if_pos (by have := congrArg (fun n : Nat => (n : Int)) hc; simpa using this)]
    simp
  · rw [if_neg hc, if_neg (by intro h; apply hc; have h' : ((x / 2 ^ k % 2 : Nat) : Int) = ((y / 2 ^ k % 2 : Nat) : Int) := by simpa using h
                              exact Int.ofNat.inj h')]
    simp
theorem eiK_bd (low c : Int) (k : Nat) : 0 ≤ eiK low c k ∧ eiK low c k < (2 ^ k : Nat) := by
  unfold eiK
  have := Nat.mod_lt (low.toNat ^^^ c.toNat) (Nat.two_pow_pos k)
  omega
theorem ei_all (h c : Int) (h0 : 0 ≤ h) (c0 : 0 ≤ c) (c1 : c ≤ 255) : h / 256 * 256 + eiK (h % 256) c 8 = ((h.toNat ^^^ c.toNat : Nat) : Int) := by
  obtain ⟨x, rfl⟩ := Int.eq_ofNat_of_zero_le h0
  obtain ⟨y, rfl⟩ := Int.eq_ofNat_of_zero_le c0
  unfold eiK
  have e1 : ((x : Int) % 256).toNat = x % 256 := by omega
  rw [e1]
  simp only [Int.toNat_natCast]
  have h1 : (x ^^^ y) % 2 ^ 8 = x % 2 ^ 8 ^^^ y % 2 ^ 8 := Nat.xor_mod_two_pow
  have h2 : (x ^^^ y) / 2 ^ 8 = x / 2 ^ 8 ^^^ y / 2 ^ 8 := Nat.xor_div_two_pow
  have h3 : y / 2 ^ 8 = 0 := by omega
  have h4 : y % 2 ^ 8 = y := by omega
  rw [h3, Nat.xor_zero] at h2
  rw [h4] at h1
  have h5 := Nat.div_add_mod (x ^^^ y) (2 ^ 8)
  rw [h1, h2] at h5
  have h6 : (x % 256 ^^^ y) % 2 ^ 8 = x % 256 ^^^ y := by
    have : (x % 256 ^^^ y) = (x ^^^ y) % 2 ^ 8 := by rw [h1]
    rw [this, Nat.mod_mod]
  rw [h6]
  have h7 : (2 : Nat) ^ 8 = 256 := rfl
  rw [h7] at h5
  omega

/-- The numbers below k that are in a list, rising. -/
def ascK (zs : List Int) : Nat → List Int
  | 0 => []
  | k + 1 => if zs.contains (k : Int) then ascK zs k ++ [(k : Int)] else ascK zs k
def asc (zs : List Int) : List Int := ascK zs 256
theorem ascK_len (zs : List Int) (k : Nat) : (ascK zs k).length ≤ k := by
  induction k with
  | zero => simp [ascK]
  | succ k ih =>
    rw [ascK]
    split
    · rw [List.length_append, List.length_singleton]; omega
    · omega
theorem ascK_mem (zs : List Int) (k : Nat) (b : Int) : b ∈ ascK zs k ↔ b ∈ zs ∧ 0 ≤ b ∧ b < k := by
  induction k with
  | zero => simp only [ascK, List.not_mem_nil, false_iff]; omega
  | succ k ih =>
    rw [ascK]
    split
    · rename_i h
      rw [List.contains_iff_mem] at h
      rw [List.mem_append, ih]
      constructor
      · rintro (h1 | h1)
        · exact ⟨h1.1, by omega, by omega⟩
        · simp at h1; subst h1; exact ⟨h, by omega, by omega⟩
      · rintro ⟨h1, h2, h3⟩
        by_cases hb : b = k
        · right; simp [hb]
        · left; exact ⟨h1, h2, by omega⟩
    · rename_i h
      rw [List.contains_iff_mem] at h
      rw [ih]
      constructor
      · rintro ⟨h1, h2, h3⟩; exact ⟨h1, h2, by omega⟩
      · rintro ⟨h1, h2, h3⟩
        refine ⟨h1, h2, ?_⟩
        by_cases hb : b = k
        · subst hb; exact absurd h1 h
        · omega
theorem ascK_bd (zs : List Int) (k : Nat) : ∀ b ∈ ascK zs k, 0 ≤ b ∧ b < k := fun b h => ((ascK_mem zs k b).1 h).2
theorem ascK_cong (zs ys : List Int) (h : ∀ b, b ∈ zs ↔ b ∈ ys) (k : Nat) : ascK zs k = ascK ys k := by
  induction k with
  | zero => rfl
  | succ k ih =>
    rw [ascK, ascK, ih]
    have : zs.contains (k : Int) = ys.contains (k : Int) := by
      rw [Bool.eq_iff_iff, List.contains_iff_mem, List.contains_iff_mem]; exact h _
    rw [this]
/-- One number more in the list. -/
theorem ascK_cons_len (a : Int) (zs : List Int) (ha : a ∉ zs) (a0 : 0 ≤ a) (k : Nat) : (ascK (a :: zs) k).length = (ascK zs k).length + if a < k then 1 else 0 := by
  induction k with
  | zero => simp [ascK]; omega
  | succ k ih =>
    rw [ascK, ascK]
    by_cases hk : (k : Int) = a
    · subst hk
      have h1 : zs.contains (k : Int) = false := by
        rw [Bool.eq_false_iff]; intro h; exact ha (List.contains_iff_mem.1 h)
      simp only [List.contains_cons, BEq.rfl, Bool.true_or, if_true, h1, List.length_append, List.length_singleton, ih]
      simp
      omega
    · have h2 : (((k : Int) == a) : Bool) = false := by simpa using hk
      simp only [List.contains_cons, h2, Bool.false_or]
      have e : (if a < ((k + 1 : Nat) : Int) then 1 else 0) = if a < (k : Int) then 1 else 0 := by
        by_cases h : a < (k : Int)
        · rw [if_pos h, if_pos (by omega)]
        · rw [if_neg h, if_neg (by omega)]
      rw [e]
      split
      · simp only [List.length_append, ih, List.length_singleton]; omega
      · rw [ih]
/-- No number twice. -/
def nd : List Int → Bool
  | [] => true
  | a :: l => !l.contains a && nd l
theorem asc_len (zs : List Int) (hb : ∀ z ∈ zs, 0 ≤ z ∧ z ≤ 255) : (asc zs).length ≤ zs.length ∧ ((asc zs).length = zs.length ↔ nd zs = true) := by
  induction zs with
  | nil =>
    have : ∀ k, ascK [] k = [] := by intro k; induction k with | zero => rfl | succ k ih => simp [ascK, ih]
    simp [asc, this, nd]
  | cons a zs ih =>
    have ih := ih (fun z hz => hb z (List.mem_cons_of_mem _ hz))
    have ha := hb a (List.mem_cons_self)
    by_cases hm : a ∈ zs
    · have e : asc (a :: zs) = asc zs := ascK_cong _ _ (fun b => by simp; rintro rfl; exact hm) _
      rw [e, nd]
      have : zs.contains a = true := List.contains_iff_mem.2 hm
      simp only [this, Bool.not_true, Bool.false_and, List.length_cons]
      refine ⟨by omega, ?_⟩
      constructor
      · intro h; omega
      · intro h; simp at h
    · have e := ascK_cons_len a zs hm ha.1 256
      have : zs.contains a = false := by rw [Bool.eq_false_iff]; intro h; exact hm (List.contains_iff_mem.1 h)
      rw [if_pos (by omega)] at e
      unfold asc at *
      rw [e, nd, this]
      simp only [Bool.not_false, Bool.true_and, List.length_cons]
      refine ⟨by omega, ?_⟩
      rw [← ih.2]
      omega
theorem asc_nil (zs : List Int) (hb : ∀ z ∈ zs, 0 ≤ z ∧ z ≤ 255) : asc zs = [] ↔ zs = [] := by
  constructor
  · intro h
    cases zs with
    | nil => rfl
    | cons a l =>
      have : a ∈ asc (a :: l) := (ascK_mem _ _ _).2 ⟨List.mem_cons_self, (hb a List.mem_cons_self).1, by have := (hb a List.mem_cons_self).2; omega⟩
      rw [h] at this; simp at this
  · rintro rfl
    have : ∀ k, ascK [] k = [] := by intro k; induction k with | zero => rfl | succ k ih => simp [ascK, ih]
    exact this _

/-- The slot that is taken: the first free one. -/
def wanF (tk : Nat → Bool) (s : Nat) : Nat → Nat → Nat
  | 0, at' => at'
  | n + 1, at' => if tk at' then wanF tk s n ((at' + s) % 31) else at'
theorem wanF_lt (tk : Nat → Bool) (s : Nat) : ∀ n at', at' < 31 → wanF tk s n at' < 31 := by
  intro n
  induction n with
  | zero => intro a h; exact h
  | succ n ih => intro a h; rw [wanF]; split; exact ih _ (Nat.mod_lt _ (by omega)); exact h
def fB (b : Int) : Nat := (hsh [b, 0]).toNat % 31
def sB (b : Int) : Nat := (hsh [b, 1]).toNat % 30 + 1
/-- A table in the making: who has which slot. -/
def tkd (Z : List (Option Int)) (i : Nat) : Bool := (Z.getD i none).isSome
def slotOf (b : Int) (Z : List (Option Int)) : Nat := wanF (tkd Z) (sB b) 30 (fB b)
theorem slotOf_lt (b : Int) (Z : List (Option Int)) : slotOf b Z < 31 := wanF_lt _ _ _ _ (Nat.mod_lt _ (by omega))
def tbK (ord : List Int) : Nat → List (Option Int)
  | 0 => List.replicate 31 none
  | k + 1 => (tbK ord k).set (slotOf (ord.getD (k % ord.length) 0) (tbK ord k)) (some (ord.getD (k % ord.length) 0))
theorem tbK_len (ord : List Int) (k : Nat) : (tbK ord k).length = 31 := by
  induction k with
  | zero => rfl
  | succ k ih => rw [tbK, List.length_set, ih]
def tbl (zs : List Int) : List Int := (tbK (asc zs) 31).map (·.getD 0)

/-- A backend comes by every slot. -/
theorem all_slots (f s t : Nat) (hf : f < 31) (hs0 : 1 ≤ s) (hs1 : s ≤ 30) (ht : t < 31) : ∃ j, j < 31 ∧ (f + j * s) % 31 = t := by
  have key : ∀ u, u * s % 31 = 1 → ∃ j, j < 31 ∧ (f + j * s) % 31 = t := by
    intro u hu
    refine ⟨(t + 31 - f) * u % 31, Nat.mod_lt _ (by omega), ?_⟩
    rw [Nat.add_mod, Nat.mul_mod, Nat.mod_mod, ← Nat.mul_mod, ← Nat.add_mod, Nat.mul_assoc, Nat.add_mod, Nat.mul_mod, hu, Nat.mul_one, Nat.mod_mod, ← Nat.add_mod]
    omega
  have : ∃ u, u < 31 ∧ u * s % 31 = 1 := by
    have H : ∀ s : Fin 31, s.val ≠ 0 → ∃ u : Fin 31, u.val * s.val % 31 = 1 := by decide
    obtain ⟨u, hu⟩ := H ⟨s, by omega⟩ (by show s ≠ 0; omega)
    exact ⟨u.val, u.isLt, hu⟩
  obtain ⟨u, _, hu⟩ := this
  exact key u hu
theorem wanF_first (tk : Nat → Bool) (f s : Nat) : ∀ n j, (∀ i, i < j → tk ((f + i * s) % 31) = true) → j + n = 30 → (∃ i, i ≤ 30 ∧ tk ((f + i * s) % 31) = false) →
    tk (wanF tk s n ((f + j * s) % 31)) = false := by
  intro n
  induction n with
  | zero =>
    intro j h1 h2 ⟨i, h3, h4⟩
    rw [wanF]
    by_cases hij : i < j
    · rw [h1 i hij] at h4; simp at h4
    · obtain rfl : i = j := by omega
      exact h4
  | succ n ih =>
    intro j h1 h2 hex
    rw [wanF]
    split
    · rename_i ht
      have e : ((f + j * s) % 31 + s) % 31 = (f + (j + 1) * s) % 31 := by
        rw [Nat.mod_add_mod, Nat.add_mul]; congr 1; omega
      rw [e]
      refine ih (j + 1) ?_ (by omega) hex
      intro i hi
      by_cases hij : i < j
      · exact h1 i hij
      · obtain rfl : i = j := by omega
        exact ht
    · rename_i ht
      simpa using ht
theorem wanF_step (tk : Nat → Bool) (f s j : Nat) (hj : j < 30) (ht : tk ((f + j * s) % 31) = true) : wanF tk s (30 - j) ((f + j * s) % 31) = wanF tk s (30 - (j + 1)) ((f + (j + 1) * s) % 31) := by
  obtain ⟨n, hn⟩ : ∃ n, 30 - j = n + 1 := ⟨29 - j, by omega⟩
  rw [hn, wanF, if_pos ht]
  have e : ((f + j * s) % 31 + s) % 31 = (f + (j + 1) * s) % 31 := by
    rw [Nat.mod_add_mod, Nat.add_mul]; congr 1; omega
  rw [e]
  congr 1
  omega

theorem count_set {α} [BEq α] [LawfulBEq α] (Z : List α) (i : Nat) (x y z : α) (h : Z[i]? = some x) : (Z.set i y).count z + (if x == z then 1 else 0) = Z.count z + (if y == z then 1 else 0) := by
  induction Z generalizing i with
  | nil => simp at h
  | cons a l ih =>
    cases i with
    | zero =>
      simp only [List.getElem?_cons_zero, Option.some.injEq] at h
      subst h
      rw [List.set_cons_zero, List.count_cons, List.count_cons]
      omega
    | succ i =>
      simp only [List.getElem?_cons_succ] at h
      rw [List.set_cons_succ, List.count_cons, List.count_cons]
      have := ih i h
      omega
theorem free_ex (Z : List (Option Int)) (h : 0 < Z.count none) : ∃ t, t < Z.length ∧ tkd Z t = false := by
  have hm : none ∈ Z := List.count_pos_iff.1 h
  obtain ⟨t, ht, he⟩ := List.getElem_of_mem hm
  refine ⟨t, ht, ?_⟩
  rw [tkd, List.getD_eq_getElem?_getD, List.getElem?_eq_getElem ht, he]
  rfl
theorem slotOf_free (b : Int) (Z : List (Option Int)) (hl : Z.length = 31) (h : 0 < Z.count none) : tkd Z (slotOf b Z) = false := by
  obtain ⟨t, ht, hf⟩ := free_ex Z h
  obtain ⟨j, hj, he⟩ := all_slots (fB b) (sB b) t (Nat.mod_lt _ (by omega)) (by unfold sB; omega) (by unfold sB; have := Nat.mod_lt (hsh [b, 1]).toNat (show 0 < 30 by omega); omega) (by omega)
  have := wanF_first (tkd Z) (fB b) (sB b) 30 0 (by intro i hi; omega) (by omega) ⟨j, by omega, by rw [he]; exact hf⟩
  rw [Nat.zero_mul, Nat.add_zero, Nat.mod_eq_of_lt (show fB b < 31 from Nat.mod_lt _ (by omega))] at this
  exact this
theorem tkd_none (Z : List (Option Int)) (i : Nat) (hi : i < Z.length) (h : tkd Z i = false) : Z[i]? = some none := by
  rw [tkd, List.getD_eq_getElem?_getD, List.getElem?_eq_getElem hi] at h
  rw [List.getElem?_eq_getElem hi]
  simpa using h
theorem tbK_none (ord : List Int) (k : Nat) (hk : k ≤ 31) : (tbK ord k).count none = 31 - k := by
  induction k with
  | zero => simp [tbK]
  | succ k ih =>
    have ih := ih (by omega)
    have hfr := slotOf_free (ord.getD (k % ord.length) 0) (tbK ord k) (tbK_len _ _) (by omega)
    have := count_set (tbK ord k) _ none (some (ord.getD (k % ord.length) 0)) none (tkd_none _ _ (by rw [tbK_len]; exact slotOf_lt _ _) hfr)
    rw [tbK]
    simp only [beq_self_eq_true, if_true, show ((some (ord.getD (k % ord.length) 0) : Option Int) == none) = false from rfl] at this
    simp only [Bool.false_eq_true, if_false] at this
    omega
theorem tbK_free (ord : List Int) (k : Nat) (hk : k < 31) : tkd (tbK ord k) (slotOf (ord.getD (k % ord.length) 0) (tbK ord k)) = false :=
  slotOf_free _ _ (tbK_len _ _) (by rw [tbK_none _ _ (by omega)]; omega)
theorem tbl_len (zs : List Int) : (tbl zs).length = 31 := by rw [tbl, List.length_map, tbK_len]

/-- No number twice, by places. -/
theorem nd_get (zs : List Int) : nd zs = true ↔ ∀ i k, k < i → i < zs.length → zs.getD i 0 ≠ zs.getD k 0 := by
  induction zs with
  | nil => simp [nd]
  | cons a l ih =>
    rw [nd, Bool.and_eq_true, ih]
    constructor
    · rintro ⟨h1, h2⟩ i k hk hi
      cases i with
      | zero => omega
      | succ i =>
        simp only [List.length_cons] at hi
        cases k with
        | zero =>
          simp only [List.getD_cons_succ, List.getD_cons_zero]
          intro h
          have hc : l.contains a = false := by simpa using h1
          rw [Bool.eq_false_iff] at hc
          apply hc
          rw [List.contains_iff_mem, ← h, List.getD_eq_getElem?_getD, List.getElem?_eq_getElem (by omega)]
          exact List.getElem_mem _
        | succ k =>
          simp only [List.getD_cons_succ]
          exact h2 i k (by omega) (by omega)
    · intro h
      refine ⟨?_, ?_⟩
      · rw [Bool.not_eq_true', Bool.eq_false_iff]
        intro hc
        rw [List.contains_iff_mem] at hc
        obtain ⟨i, hi, he⟩ := List.getElem_of_mem hc
        have := h (i + 1) 0 (by omega) (by simp; omega)
        rw [List.getD_cons_succ, List.getD_cons_zero, List.getD_eq_getElem?_getD, List.getElem?_eq_getElem hi, he] at this
        exact this rfl
      · intro i k hk hi
        have := h (i + 1) (k + 1) (by omega) (by simp; omega)
        simpa only [List.getD_cons_succ] using this
theorem nd_count (zs : List Int) (h : nd zs = true) (b : Int) : zs.count b = if zs.contains b then 1 else 0 := by
  induction zs with
  | nil => simp
  | cons a l ih =>
    rw [nd, Bool.and_eq_true] at h
    rw [List.count_cons, ih h.2, List.contains_cons]
    by_cases hab : a = b
    · subst hab
      have hc : l.contains a = false := by simpa using h.1
      rw [hc]
      simp
    · have h1 : (a == b) = false := by simpa using hab
      have h2 : (b == a) = false := by simpa using Ne.symm hab
      rw [h1, h2]
      simp
theorem ascK_nd (zs : List Int) (h : nd zs = true) (k : Nat) : ascK zs (k + 1) = ascK zs k ++ List.replicate (zs.count (k : Int)) (k : Int) := by
  rw [nd_count zs h, ascK]
  split <;> simp
theorem count_take_succ (zs : List Int) (i : Nat) (b : Int) (hi : i < zs.length) : (zs.take (i + 1)).count b = (zs.take i).count b + if zs.getD i 0 = b then 1 else 0 := by
  rw [List.take_add_one, List.count_append, List.getElem?_eq_getElem hi, List.getD_eq_getElem?_getD, List.getElem?_eq_getElem hi]
  by_cases h : zs[i] = b <;> simp [h]

end Go.Proofs.YtajphdppmdoalaaGreat

namespace Go.Proofs.YtajphdppmdoalaaGreat

/-- The hashes of a packet's datagram and of its flow. -/
def dgH (src dst proto id : Int) : Int := hsh [src / 256, src % 256, dst / 256, dst % 256, proto, id / 256, id % 256]
def flH (src dst proto sport dport : Int) : Int := hsh [src / 256, src % 256, dst / 256, dst % 256, proto, sport / 256, sport % 256, dport / 256, dport % 256]

/-- A packet (of its data only how many bytes there are). -/
structure Pk where
  src : Int
  dst : Int
  proto : Int
  id : Int
  off : Int
  more : Bool
  sport : Int
  dport : Int
  dlen : Nat
/-- A piece that was accepted: its arrival, its bytes from a up to b, is it the last one, is it held back? -/
structure Pc where
  seq : Nat
  a : Int
  b : Int
  ends : Bool
  waits : Bool
/-- What an owner keeps of a datagram. -/
structure Ent where
  owner : Int
  src : Int
  dst : Int
  proto : Int
  id : Int
  born : Int
  pcs : List Pc
  known : Bool
  to : Int
structure Snt where
  seq : Nat
  frm : Int
  to : Int
  p : Pk
structure Ev where
  seq : Nat
  fate : Int
  whr : Int
/-- A cluster, by the document. -/
structure Cl where
  reps : Int
  life : Int
  now : Int
  next : Nat
  slots : List Int
  ents : List Ent
  sent : List Snt
  evs : List Ev

def Cl.new (reps life : Int) : Cl := ⟨reps, life, 0, 0, [], [], [], []⟩
def chosenM (S : Cl) (p : Pk) : Int := S.slots.getD ((flH p.src p.dst p.proto p.sport p.dport).toNat % 31) 0
def ownerM (S : Cl) (p : Pk) : Int := dgH p.src p.dst p.proto p.id % S.reps
def toldM (S : Cl) (seq : Nat) (f w : Int) : Cl := { S with evs := S.evs ++ [⟨seq, f, w⟩] }
def likeM (e : Ent) (p : Pk) : Bool := e.src == p.src && e.dst == p.dst && e.proto == p.proto && e.id == p.id
/-- Pieces that are held back, and their bytes. -/
def waitL (e : Ent) : List Pc := e.pcs.filter (·.waits)
def bytesL (l : List Pc) : Int := (l.map (fun q => q.b - q.a)).sum
def entsM (S : Cl) (o : Int) : List Ent := S.ents.filter (·.owner == o)
def heldB (S : Cl) (o : Int) : Int := bytesL ((entsM S o).flatMap waitL)
def clashM (old n : Pc) : Bool := (decide (old.a < n.b) && decide (n.a < old.b)) || (old.ends && (n.ends || decide (n.b > old.b))) || (n.ends && decide (old.b > n.b))
def wholeM (e : Ent) : Bool := bytesL e.pcs == ((e.pcs.filter (·.ends)).getLast?.map (·.b)).getD (-1)
/-- The place of the last entry that goes with a packet. -/
def atM (l : List Ent) (p : Pk) : Option Nat := ((List.range l.length).filter (fun i => match l[i]? with | some e => likeM e p | none => false)).getLast?
/-- The piece that a packet is. -/
def pcM (seq : Nat) (p : Pk) : Pc := ⟨seq, 4 * p.off, 4 * p.off + p.dlen, !p.more, false⟩
/-- Why a piece is not accepted (0: there is no reason). -/
def refusedM (S : Cl) (e : Option Ent) (p : Pk) (n : Pc) : Int :=
  if n.a = 0 ∧ S.slots = [] then 2
  else if e.isNone ∧ 3 ≤ (entsM S (ownerM S p)).length then 4
  else if (e.map (fun e => e.pcs.any (fun q => clashM q n))).getD false then 3
  else if 0 < n.a ∧ (e.map (·.known)).getD false = false ∧ 48 < heldB S (ownerM S p) + n.b - n.a then 4
  else 0
/-- The entry behind an accepted piece, and what is told of it. -/
def takenM (S : Cl) (e : Ent) (p : Pk) (n : Pc) : Ent × List Ev :=
  let known := e.known || decide (n.a = 0)
  let «to» := if n.a = 0 then chosenM S p else e.to
  ({ e with known := known, «to» := to, pcs := e.pcs.map (fun q => if known then { q with waits := false } else q) ++ [{ n with waits := !known }] },
    if known then ⟨n.seq, 0, to⟩ :: (waitL e).map (fun q => ⟨q.seq, 0, to⟩) else [])
def goneM (l : List Ent) (i : Nat) : List Ent := l.take i ++ l.drop (i + 1)
/-- A piece comes to its owner. -/
def pieceM (S : Cl) (seq : Nat) (p : Pk) : Cl :=
  let n := pcM seq p
  let i := atM S.ents p
  let f := refusedM S (i.bind (S.ents[·]?)) p n
  if f ≠ 0 then toldM S seq f 0
  else
    let l := match i with | some _ => S.ents | none => S.ents ++ [⟨ownerM S p, p.src, p.dst, p.proto, p.id, S.now, [], false, 0⟩]
    let k := i.getD S.ents.length
    match l[k]? with
    | none => S
    | some e =>
      let r := takenM S e p n
      { S with evs := S.evs ++ r.2, ents := if wholeM r.1 then goneM l k else l.set k r.1 }
def wholePk (p : Pk) : Bool := decide (p.off = 0) && !p.more
/-- Bytes arrive (u: the packet that they are, if they are one). -/
def arriveM (S : Cl) (rep : Int) (u : Option Pk) : Cl :=
  let S' := { S with next := S.next + 1 }
  match u with
  | none => toldM S' S.next 1 0
  | some p =>
    if wholePk p then (if S.slots = [] then toldM S' S.next 2 0 else toldM S' S.next 0 (chosenM S p))
    else if ownerM S p = rep then pieceM S' S.next p
    else { S' with sent := S.sent ++ [⟨S.next, rep, ownerM S p, p⟩] }
/-- The arrivals of which a cluster still has something: an event that is not yet taken, a way to go, a piece that waits. -/
def seqsM (S : Cl) : List Nat := S.evs.map (·.seq) ++ (S.sent.map (·.seq) ++ S.ents.flatMap (fun e => (waitL e).map (·.seq)))

theorem seqs_told (S : Cl) (seq : Nat) (f w : Int) : (seqsM (toldM S seq f w)).Perm (seq :: seqsM S) := by
  unfold seqsM toldM
  simp only [List.map_append, List.map_cons, List.map_nil, List.append_assoc]
  exact List.perm_middle
theorem wait_forgot (l : List Pc) : (l.map (fun q => { q with waits := false })).filter (fun q : Pc => q.waits) = [] := by
  induction l with
  | nil => rfl
  | cons a l ih => simp [ih]
theorem wait_taken (S : Cl) (e : Ent) (p : Pk) (n : Pc) : ((takenM S e p n).2.map (·.seq) ++ (waitL (takenM S e p n).1).map (·.seq)).Perm (n.seq :: (waitL e).map (·.seq)) := by
  unfold takenM
  cases hk : (e.known || decide (n.a = 0)) with
  | true =>
    simp only [if_true]
    unfold waitL
    simp only [List.filter_append, wait_forgot]
    simp [Function.comp_def]
  | false =>
    simp only [Bool.false_eq_true, if_false]
    unfold waitL
    simp only [List.filter_append]
    simp

theorem split_at {α} (l : List α) (k : Nat) (e : α) (h : l[k]? = some e) : l = l.take k ++ e :: l.drop (k + 1) := by
  have hk : k < l.length := by
    by_cases hk : k < l.length
    · exact hk
    · rw [List.getElem?_eq_none (by omega)] at h; cases h
  rw [List.getElem?_eq_getElem hk, Option.some.injEq] at h
  rw [← h, List.getElem_cons_drop, List.take_append_drop]
theorem flat_gone {α β} (f : α → List β) (l : List α) (k : Nat) (e : α) (h : l[k]? = some e) : (l.flatMap f).Perm (f e ++ (l.take k ++ l.drop (k + 1)).flatMap f) := by
  conv => lhs; rw [split_at l k e h]
  simp only [List.flatMap_append, List.flatMap_cons]
  rw [← List.append_assoc, ← List.append_assoc]
  exact List.perm_append_comm.append_right _
theorem flat_set {α β} (f : α → List β) (l : List α) (k : Nat) (e r : α) (h : l[k]? = some e) : ((l.set k r).flatMap f).Perm (f r ++ (l.take k ++ l.drop (k + 1)).flatMap f) := by
  have hk : k < l.length := by
    by_cases hk : k < l.length
    · exact hk
    · rw [List.getElem?_eq_none (by omega)] at h; cases h
  have := flat_gone f (l.set k r) k r (by rw [List.getElem?_set_self hk])
  rw [List.take_set_of_le (Nat.le_refl _), List.drop_set_of_lt (by omega)] at this
  exact this

theorem perm5 (E R Sn X Wr We G : List Nat) (seq : Nat) (hX : X.Perm (Wr ++ G)) (hR : (R ++ Wr).Perm (seq :: We)) : ((E ++ R) ++ (Sn ++ X)).Perm (seq :: (E ++ (Sn ++ (We ++ G)))) := by
  rw [List.perm_iff_count] at *
  intro a
  have h1 := hX a
  have h2 := hR a
  simp only [List.count_append, List.count_cons] at *
  omega
/-- The waiting arrivals of an entry. -/
def waitS (e : Ent) : List Nat := (waitL e).map (·.seq)
theorem seqs_taken (S : Cl) (l : List Ent) (k : Nat) (e : Ent) (p : Pk) (seq : Nat) (hk : l[k]? = some e) (hl : (S.ents.flatMap waitS).Perm (l.flatMap waitS))
    (hw : wholeM (takenM S e p (pcM seq p)).1 = true → waitL (takenM S e p (pcM seq p)).1 = []) :
    (seqsM { S with evs := S.evs ++ (takenM S e p (pcM seq p)).2, ents := if wholeM (takenM S e p (pcM seq p)).1 then goneM l k else l.set k (takenM S e p (pcM seq p)).1 }).Perm (seq :: seqsM S) := by
  have hR := wait_taken S e p (pcM seq p)
  have hseq : (pcM seq p).seq = seq := rfl
  rw [hseq] at hR
  have hG := flat_gone waitS l k e hk
  have hold : (S.ents.flatMap waitS).Perm (waitS e ++ (l.take k ++ l.drop (k + 1)).flatMap waitS) := hl.trans hG
  have key : ((S.evs.map (·.seq) ++ (takenM S e p (pcM seq p)).2.map (·.seq)) ++ (S.sent.map (·.seq) ++ (if wholeM (takenM S e p (pcM seq p)).1 then goneM l k else l.set k (takenM S e p (pcM seq p)).1).flatMap waitS)).Perm (seq :: (S.evs.map (·.seq) ++ (S.sent.map (·.seq) ++ (waitS e ++ (l.take k ++ l.drop (k + 1)).flatMap waitS)))) := by
    refine perm5 _ _ _ _ (waitS (takenM S e p (pcM seq p)).1) _ _ _ ?_ hR
    split
    · rename_i hwh
      have : waitS (takenM S e p (pcM seq p)).1 = [] := by rw [waitS, hw hwh]; rfl
      rw [this]
      exact List.Perm.refl _
    · exact flat_set waitS l k e _ hk
  unfold seqsM
  simp only [List.map_append]
  refine key.trans ?_
  refine List.Perm.cons _ ?_
  exact List.Perm.append_left _ (List.Perm.append_left _ hold.symm)
theorem atM_some (l : List Ent) (p : Pk) (k : Nat) (h : atM l p = some k) : ∃ e, l[k]? = some e ∧ likeM e p = true := by
  have hm := List.mem_of_getLast? h
  rw [List.mem_filter] at hm
  obtain ⟨h1, h2⟩ := hm
  rw [List.mem_range] at h1
  rw [List.getElem?_eq_getElem h1] at h2
  exact ⟨l[k], List.getElem?_eq_getElem h1, h2⟩

end Go.Proofs.YtajphdppmdoalaaGreat

namespace Go.Proofs.YtajphdppmdoalaaGreat

theorem clash_false (q r : Pc) : clashM q r = false ↔ (q.b ≤ r.a ∨ r.b ≤ q.a) ∧ (q.ends = true → r.ends = false ∧ r.b ≤ q.b) ∧ (r.ends = true → q.ends = false ∧ q.b ≤ r.b) := by
  unfold clashM
  cases hq : q.ends <;> cases hr : r.ends <;> simp <;> omega
theorem clash_comm (q r : Pc) : clashM q r = clashM r q := by
  rw [Bool.eq_iff_iff, ← Bool.not_eq_false, ← Bool.not_eq_false, clash_false, clash_false]
  constructor
  · intro h h'; exact h ⟨h'.1.symm, h'.2.2, h'.2.1⟩
  · intro h h'; exact h ⟨h'.1.symm, h'.2.2, h'.2.1⟩
theorem clash_apart (q r : Pc) (h : clashM q r = false) : q.b ≤ r.a ∨ r.b ≤ q.a := ((clash_false q r).1 h).1
theorem clash_end (q r : Pc) (h : clashM q r = false) (hr : r.ends = true) : q.b ≤ r.b ∧ q.ends = false := ⟨(((clash_false q r).1 h).2.2 hr).2, (((clash_false q r).1 h).2.2 hr).1⟩

/-- How many of the points lo, lo + 1, .. (n of them) lie in pieces. -/
def covN (l : List Pc) (lo : Int) : Nat → Int
  | 0 => 0
  | n + 1 => covN l lo n + (l.countP (fun q => decide (q.a ≤ lo + n) && decide (lo + n < q.b)) : Nat)
theorem cov_cons (q : Pc) (l : List Pc) (lo : Int) (n : Nat) : covN (q :: l) lo n = covN [q] lo n + covN l lo n := by
  induction n with
  | zero => rfl
  | succ n ih =>
    simp only [covN, ih, List.countP_cons, List.countP_nil]
    omega
theorem cov_one (q : Pc) (lo : Int) (n : Nat) : covN [q] lo n = max 0 (min q.b (lo + n) - max q.a lo) := by
  induction n with
  | zero => simp [covN]; omega
  | succ n ih =>
    simp only [covN, ih, List.countP_cons, List.countP_nil]
    by_cases h : q.a ≤ lo + n ∧ lo + n < q.b
    · have : (decide (q.a ≤ lo + n) && decide (lo + n < q.b)) = true := by simp [h]
      rw [this]
      simp only [if_true]
      omega
    · have : (decide (q.a ≤ lo + n) && decide (lo + n < q.b)) = false := by
        rw [Bool.eq_false_iff]; intro h'; apply h; simpa using h'
      rw [this]
      simp only [Bool.false_eq_true, if_false]
      omega
theorem cov_all (l : List Pc) (lo : Int) (n : Nat) (h : ∀ q ∈ l, lo ≤ q.a ∧ q.a ≤ q.b ∧ q.b ≤ lo + n) : covN l lo n = bytesL l := by
  induction l with
  | nil =>
    clear h
    induction n with
    | zero => rfl
    | succ n ih => simp only [covN, ih, List.countP_nil]; simp [bytesL]
  | cons q l ih =>
    rw [cov_cons, cov_one, ih (fun r hr => h r (List.mem_cons_of_mem _ hr))]
    have := h q List.mem_cons_self
    simp only [bytesL, List.map_cons, List.sum_cons]
    omega
theorem one_at (l : List Pc) (x : Int) (h : l.Pairwise (fun q r => clashM q r = false)) : l.countP (fun q => decide (q.a ≤ x) && decide (x < q.b)) ≤ 1 := by
  induction l with
  | nil => simp
  | cons q l ih =>
    rw [List.pairwise_cons] at h
    rw [List.countP_cons]
    have ih := ih h.2
    split
    · rename_i hq
      have hz : l.countP (fun q => decide (q.a ≤ x) && decide (x < q.b)) = 0 := by
        rw [List.countP_eq_zero]
        intro r hr hx
        have := clash_apart q r (h.1 r hr)
        simp at hx hq
        omega
      omega
    · omega
theorem cov_le (l : List Pc) (lo : Int) (n : Nat) (h : l.Pairwise (fun q r => clashM q r = false)) : covN l lo n ≤ n := by
  induction n with
  | zero => simp [covN]
  | succ n ih =>
    have := one_at l (lo + n) h
    simp only [covN]
    omega
/-- Pieces that lie apart between lo and hi have no more bytes than that. -/
theorem bytes_le (l : List Pc) (lo hi : Int) (hlh : lo ≤ hi) (h : l.Pairwise (fun q r => clashM q r = false)) (hb : ∀ q ∈ l, lo ≤ q.a ∧ q.a ≤ q.b ∧ q.b ≤ hi) : bytesL l ≤ hi - lo := by
  have h1 := cov_all l lo (hi - lo).toNat (fun q hq => by have := hb q hq; omega)
  have h2 := cov_le l lo (hi - lo).toNat h
  omega

/-- An entry as it comes about. -/
structure EOK (e : Ent) : Prop where
  pos : ∀ q ∈ e.pcs, 0 ≤ q.a ∧ q.a < q.b
  apart : e.pcs.Pairwise (fun q r => clashM q r = false)
  known : e.known = true ↔ ∃ q ∈ e.pcs, q.a = 0
  waits : ∀ q ∈ e.pcs, q.waits = !e.known
theorem eok_new (owner src dst proto id born : Int) : EOK ⟨owner, src, dst, proto, id, born, [], false, 0⟩ := ⟨by simp, List.Pairwise.nil, by simp, by simp⟩

theorem wait_known (e : Ent) (h : EOK e) (hk : e.known = true) : waitL e = [] := by
  unfold waitL
  rw [List.filter_eq_nil_iff]
  intro q hq
  rw [h.waits q hq, hk]
  simp
/-- Without its first piece a datagram is never whole. -/
theorem whole_known (e : Ent) (h : EOK e) (hw : wholeM e = true) : e.known = true := by
  cases hk : e.known with
  | true => rfl
  | false =>
    exfalso
    have h1 : ∀ q ∈ e.pcs, 1 ≤ q.a := by
      intro q hq
      have := h.pos q hq
      by_cases h0 : q.a = 0
      · have := h.known.2 ⟨q, hq, h0⟩
        rw [hk] at this; cases this
      · omega
    unfold wholeM at hw
    rw [beq_iff_eq] at hw
    cases hl : (e.pcs.filter (·.ends)).getLast? with
    | none =>
      rw [hl] at hw
      simp only [Option.map_none, Option.getD_none] at hw
      have hb : 0 ≤ bytesL e.pcs := by
        have hp := h.pos
        revert hp
        generalize e.pcs = l
        intro hp
        induction l with
        | nil => simp [bytesL]
        | cons q l ih =>
          have := hp q List.mem_cons_self
          have := ih (fun r hr => hp r (List.mem_cons_of_mem _ hr))
          simp only [bytesL, List.map_cons, List.sum_cons] at *
          omega
      omega
    | some r =>
      rw [hl] at hw
      simp only [Option.map_some, Option.getD_some] at hw
      have hm := List.mem_of_getLast? hl
      rw [List.mem_filter] at hm
      have hall : ∀ q ∈ e.pcs, q.b ≤ r.b := by
        intro q hq
        by_cases hqr : q = r
        · subst hqr; omega
        · obtain ⟨i, hi, hie⟩ := List.getElem_of_mem hq
          obtain ⟨j, hj, hje⟩ := List.getElem_of_mem hm.1
          have hij : i ≠ j := by rintro rfl; exact hqr (hie.symm.trans hje)
          have hp := List.pairwise_iff_getElem.1 h.apart
          rcases Nat.lt_or_gt_of_ne hij with hlt | hlt
          · have := hp i j hi hj hlt
            rw [hie, hje] at this
            exact (clash_end q r this hm.2).1
          · have := hp j i hj hi hlt
            rw [hie, hje, clash_comm] at this
            exact (clash_end q r this hm.2).1
      have hr1 := h1 r hm.1
      have hr2 := h.pos r hm.1
      have := bytes_le e.pcs 1 r.b (by omega) h.apart (fun q hq => ⟨h1 q hq, by have := h.pos q hq; omega, hall q hq⟩)
      omega

/-- A piece is a packet that is no whole one: it has bytes. -/
structure PkOK (p : Pk) : Prop where
  off : 0 ≤ p.off
  len : 0 < p.dlen
theorem eok_taken (S : Cl) (e : Ent) (p : Pk) (seq : Nat) (h : EOK e) (hp : PkOK p) (hc : e.pcs.any (fun q => clashM q (pcM seq p)) = false) : EOK (takenM S e p (pcM seq p)).1 := by
  have hq : ∀ q : Pc, (if (e.known || decide ((pcM seq p).a = 0)) = true then { q with waits := false } else q).a = q.a ∧ (if (e.known || decide ((pcM seq p).a = 0)) = true then { q with waits := false } else q).b = q.b ∧ (if (e.known || decide ((pcM seq p).a = 0)) = true then { q with waits := false } else q).ends = q.ends := by
    intro q; split <;> exact ⟨rfl, rfl, rfl⟩
  have hcl : ∀ q r q' r' : Pc, q.a = q'.a → q.b = q'.b → q.ends = q'.ends → r.a = r'.a → r.b = r'.b → r.ends = r'.ends → clashM q r = clashM q' r' := by
    intro q r q' r' h1 h2 h3 h4 h5 h6
    unfold clashM
    rw [h1, h2, h3, h4, h5, h6]
  have hna : (pcM seq p).a = 4 * p.off := rfl
  have hnb : (pcM seq p).b = 4 * p.off + p.dlen := rfl
  refine ⟨?_, ?_, ?_, ?_⟩
  · intro q hq'
    simp only [takenM, List.mem_append, List.mem_map, List.mem_singleton] at hq'
    rcases hq' with ⟨r, hr, rfl⟩ | rfl
    · rw [(hq r).1, (hq r).2.1]; exact h.pos r hr
    · simp only [hna, hnb]
      have := hp.off
      have := hp.len
      omega
  · simp only [takenM]
    rw [List.pairwise_append]
    refine ⟨?_, List.pairwise_singleton _ _, ?_⟩
    · rw [List.pairwise_map]
      refine h.apart.imp ?_
      intro q r hqr
      rw [hcl _ _ q r (hq q).1 (hq q).2.1 (hq q).2.2 (hq r).1 (hq r).2.1 (hq r).2.2]
      exact hqr
    · intro q hq' r hr
      rw [List.mem_map] at hq'
      rw [List.mem_singleton] at hr
      obtain ⟨q0, hq0, rfl⟩ := hq'
      subst hr
      refine (hcl _ _ q0 (pcM seq p) (hq q0).1 (hq q0).2.1 (hq q0).2.2 rfl rfl rfl).trans ?_
      rw [List.any_eq_false] at hc
      have := hc q0 hq0
      simpa using this
  · simp only [takenM]
    refine (Bool.or_eq_true _ _ ▸ Iff.rfl : (e.known || decide ((pcM seq p).a = 0)) = true ↔ (e.known = true ∨ decide ((pcM seq p).a = 0) = true)).trans ?_
    rw [h.known, decide_eq_true_eq]
    constructor
    · rintro (⟨q, hq1, hq2⟩ | h0)
      · exact ⟨_, List.mem_append_left _ (List.mem_map_of_mem hq1), by rw [(hq q).1]; exact hq2⟩
      · exact ⟨_, List.mem_append_right _ (List.mem_singleton.2 rfl), h0⟩
    · rintro ⟨q, hq1, hq2⟩
      rw [List.mem_append, List.mem_map, List.mem_singleton] at hq1
      rcases hq1 with ⟨r, hr, rfl⟩ | rfl
      · left; exact ⟨r, hr, by rw [← (hq r).1]; exact hq2⟩
      · right; exact hq2
  · intro q hq'
    simp only [takenM] at hq' ⊢
    rw [List.mem_append, List.mem_map, List.mem_singleton] at hq'
    rcases hq' with ⟨r, hr, rfl⟩ | rfl
    · cases hk : (e.known || decide ((pcM seq p).a = 0)) with
      | true => simp
      | false =>
        simp only [Bool.false_eq_true, if_false]
        rw [h.waits r hr]
        rw [Bool.or_eq_false_iff] at hk
        rw [hk.1]
    · rfl

end Go.Proofs.YtajphdppmdoalaaGreat

namespace Go.Proofs.YtajphdppmdoalaaGreat

def fo (o : Int) (e : Ent) : List Pc := if e.owner == o then waitL e else []
def go1 (o : Int) (e : Ent) : List Ent := if e.owner == o then [e] else []
theorem flat_fo (o : Int) (l : List Ent) : (l.filter (·.owner == o)).flatMap waitL = l.flatMap (fo o) := by
  induction l with
  | nil => rfl
  | cons e l ih =>
    rw [List.filter_cons, List.flatMap_cons, fo]
    split
    · rw [List.flatMap_cons, ih]
    · rw [ih]; rfl
theorem flat_go (o : Int) (l : List Ent) : l.filter (·.owner == o) = l.flatMap (go1 o) := by
  induction l with
  | nil => rfl
  | cons e l ih =>
    rw [List.filter_cons, List.flatMap_cons, go1]
    split
    · rw [ih]; rfl
    · rw [ih]; rfl
theorem heldB_eq (S : Cl) (o : Int) : heldB S o = bytesL (S.ents.flatMap (fo o)) := by rw [heldB, entsM, flat_fo]
theorem entsM_eq (S : Cl) (o : Int) : (entsM S o).length = (S.ents.flatMap (go1 o)).length := by rw [entsM, flat_go]
theorem bytes_perm {l m : List Pc} (h : l.Perm m) : bytesL l = bytesL m := by
  unfold bytesL
  induction h with
  | nil => rfl
  | cons x _ ih => simp only [List.map_cons, List.sum_cons, ih]
  | swap x y l => simp only [List.map_cons, List.sum_cons]; omega
  | trans _ _ h1 h2 => exact h1.trans h2
theorem bytes_append (l m : List Pc) : bytesL (l ++ m) = bytesL l + bytesL m := by simp [bytesL]
theorem bytes_pos (l : List Pc) (h : ∀ q ∈ l, 0 ≤ q.a ∧ q.a < q.b) : 0 ≤ bytesL l := by
  induction l with
  | nil => simp [bytesL]
  | cons q l ih =>
    have := h q List.mem_cons_self
    have := ih (fun r hr => h r (List.mem_cons_of_mem _ hr))
    simp only [bytesL, List.map_cons, List.sum_cons] at *
    omega
theorem wait_pos (e : Ent) (h : EOK e) : 0 ≤ bytesL (waitL e) := bytes_pos _ (fun q hq => h.pos q (List.mem_filter.1 hq).1)

/-- A cluster as it comes about. -/
structure COK (S : Cl) : Prop where
  reps : 1 ≤ S.reps
  ents : ∀ e ∈ S.ents, EOK e ∧ e.owner = dgH e.src e.dst e.proto e.id % S.reps
  sent : ∀ s ∈ S.sent, PkOK s.p
  few : ∀ o, (entsM S o).length ≤ 3
  held : ∀ o, heldB S o ≤ 48
theorem cok_new (reps life : Int) (h : 1 ≤ reps) : COK (Cl.new reps life) :=
  ⟨h, fun e he => by simp [Cl.new] at he, fun s hs => by simp [Cl.new] at hs, fun o => by simp [Cl.new, entsM], fun o => by simp [Cl.new, heldB, entsM, bytesL]⟩
theorem cok_owner (S : Cl) (h : COK S) (e : Ent) (he : e ∈ S.ents) : 0 ≤ e.owner ∧ e.owner < S.reps := by
  rw [(h.ents e he).2]
  have := h.reps
  exact ⟨Int.emod_nonneg _ (by omega), Int.emod_lt_of_pos _ (by omega)⟩
theorem taken_owner (S : Cl) (e : Ent) (p : Pk) (n : Pc) : (takenM S e p n).1.owner = e.owner ∧ (takenM S e p n).1.src = e.src ∧ (takenM S e p n).1.dst = e.dst ∧ (takenM S e p n).1.proto = e.proto ∧ (takenM S e p n).1.id = e.id := ⟨rfl, rfl, rfl, rfl, rfl⟩
/-- The bytes that an entry holds back, behind an accepted piece. -/
theorem wait_bytes (S : Cl) (e : Ent) (p : Pk) (seq : Nat) : bytesL (waitL (takenM S e p (pcM seq p)).1) = if (e.known || decide ((pcM seq p).a = 0)) = true then 0 else bytesL (waitL e) + ((pcM seq p).b - (pcM seq p).a) := by
  unfold takenM waitL
  simp only [List.filter_append, bytes_append]
  split
  · rename_i hk
    simp only [wait_forgot, hk]
    simp [bytesL]
  · rename_i hk
    have hk' : (e.known || decide ((pcM seq p).a = 0)) = false := by simpa using hk
    simp only [hk']
    simp [bytesL]
theorem told_cok (S : Cl) (seq : Nat) (f w : Int) (h : COK S) : COK (toldM S seq f w) := ⟨h.reps, h.ents, h.sent, h.few, h.held⟩
theorem mem_gone {α} (l : List α) (k : Nat) (x : α) (h : x ∈ l.take k ++ l.drop (k + 1)) : x ∈ l := by
  rw [List.mem_append] at h
  rcases h with h | h
  · exact List.mem_of_mem_take h
  · exact List.mem_of_mem_drop h

theorem cok_taken (S : Cl) (l : List Ent) (k : Nat) (e : Ent) (p : Pk) (seq : Nat) (h : COK S) (hk : l[k]? = some e) (hp : PkOK p)
    (hl : ∀ x ∈ l, EOK x ∧ x.owner = dgH x.src x.dst x.proto x.id % S.reps) (hc : e.pcs.any (fun q => clashM q (pcM seq p)) = false)
    (hfew : ∀ o, (l.flatMap (go1 o)).length ≤ 3) (hheld : ∀ o, bytesL (l.flatMap (fo o)) ≤ 48)
    (hroom : 0 < (pcM seq p).a → e.known = false → bytesL (l.flatMap (fo e.owner)) + ((pcM seq p).b - (pcM seq p).a) ≤ 48) :
    COK { S with evs := S.evs ++ (takenM S e p (pcM seq p)).2, ents := if wholeM (takenM S e p (pcM seq p)).1 then goneM l k else l.set k (takenM S e p (pcM seq p)).1 } := by
  have he := hl e (List.mem_of_getElem? hk)
  have hr := eok_taken S e p seq he.1 hp hc
  have hwb := wait_bytes S e p seq
  have hwr := wait_pos _ hr
  have hwe := wait_pos _ he.1
  have hlen : k < l.length := by
    by_cases hlt : k < l.length
    · exact hlt
    · rw [List.getElem?_eq_none (by omega)] at hk; cases hk
  refine ⟨h.reps, ?_, h.sent, ?_, ?_⟩
  · intro x hx
    simp only at hx
    split at hx
    · exact hl x (mem_gone l k x hx)
    · rcases List.mem_or_eq_of_mem_set hx with hx | hx
      · exact hl x hx
      · subst hx
        exact ⟨hr, he.2⟩
  · intro o
    rw [entsM_eq]
    simp only
    have h1 := (flat_gone (go1 o) l k e hk).length_eq
    have h2 := (flat_set (go1 o) l k e (takenM S e p (pcM seq p)).1 hk).length_eq
    have h3 := hfew o
    have h4 : (go1 o (takenM S e p (pcM seq p)).1).length = (go1 o e).length := by
      unfold go1
      rw [(taken_owner S e p (pcM seq p)).1]
      split <;> rfl
    simp only [List.length_append] at h1 h2
    split
    · unfold goneM; simp only [List.flatMap_append, List.length_append] at *; omega
    · simp only [List.flatMap_append, List.length_append] at *; omega
  · intro o
    rw [heldB_eq]
    simp only
    have h1 := bytes_perm (flat_gone (fo o) l k e hk)
    have h2 := bytes_perm (flat_set (fo o) l k e (takenM S e p (pcM seq p)).1 hk)
    have h3 := hheld o
    rw [bytes_append] at h1 h2
    have hfe : fo o e = if e.owner == o then waitL e else [] := rfl
    have hfr : fo o (takenM S e p (pcM seq p)).1 = if e.owner == o then waitL (takenM S e p (pcM seq p)).1 else [] := rfl
    by_cases ho : e.owner = o
    · subst ho
      simp only [beq_self_eq_true, if_true] at hfe hfr
      rw [hfe] at h1
      rw [hfr] at h2
      split
      · unfold goneM; omega
      · rw [h2, hwb]
        split
        · omega
        · rename_i hkn
          have hkn' : (e.known || decide ((pcM seq p).a = 0)) = false := by simpa using hkn
          rw [Bool.or_eq_false_iff] at hkn'
          have ha : (pcM seq p).a ≠ 0 := by simpa using hkn'.2
          have ha0 : 0 ≤ (pcM seq p).a := by show 0 ≤ 4 * p.off; have := hp.off; omega
          have := hroom (by omega) hkn'.1
          omega
    · have hne : (e.owner == o) = false := by simpa using ho
      simp only [hne, Bool.false_eq_true, if_false] at hfe hfr
      rw [hfe] at h1
      rw [hfr] at h2
      have h0 : bytesL [] = 0 := rfl
      split
      · unfold goneM; omega
      · omega

theorem refused_zero (S : Cl) (e : Option Ent) (p : Pk) (n : Pc) (h : refusedM S e p n = 0) : (e = none → (entsM S (ownerM S p)).length < 3) ∧ (∀ x, e = some x → x.pcs.any (fun q => clashM q n) = false) ∧ (0 < n.a → (∀ x, e = some x → x.known = false) → heldB S (ownerM S p) + n.b - n.a ≤ 48) := by
  unfold refusedM at h
  split at h
  · omega
  split at h
  · omega
  rename_i h1 h2
  split at h
  · omega
  rename_i h3
  split at h
  · omega
  rename_i h4
  refine ⟨?_, ?_, ?_⟩
  · rintro rfl
    simp at h2
    omega
  · rintro x rfl
    simpa using h3
  · intro ha hk
    have : (e.map (·.known)).getD false = false := by
      cases e with
      | none => rfl
      | some x => exact hk x rfl
    have h5 : ¬ (48 < heldB S (ownerM S p) + n.b - n.a) := fun hh => h4 ⟨ha, this, hh⟩
    omega
theorem like_owner (S : Cl) (e : Ent) (p : Pk) (h : likeM e p = true) : dgH e.src e.dst e.proto e.id % S.reps = ownerM S p := by
  unfold likeM at h
  simp only [Bool.and_eq_true, beq_iff_eq] at h
  unfold ownerM
  rw [h.1.1.1, h.1.1.2, h.1.2, h.2]

/-- A piece comes to its owner: the cluster is again as it comes about, and no arrival is lost or told twice. -/
theorem piece_cok (S : Cl) (seq : Nat) (p : Pk) (h : COK S) (hp : PkOK p) : COK (pieceM S seq p) ∧ (seqsM (pieceM S seq p)).Perm (seq :: seqsM S) := by
  unfold pieceM
  simp only
  split
  · exact ⟨told_cok _ _ _ _ h, seqs_told _ _ _ _⟩
  · rename_i hf
    have hf : refusedM S ((atM S.ents p).bind (S.ents[·]?)) p (pcM seq p) = 0 := by simpa using hf
    cases hi : atM S.ents p with
    | none =>
      rw [hi] at hf
      obtain ⟨f1, _, f3⟩ := refused_zero _ _ _ _ hf
      have hl : (S.ents ++ [(⟨ownerM S p, p.src, p.dst, p.proto, p.id, S.now, [], false, 0⟩ : Ent)])[S.ents.length]? = some ⟨ownerM S p, p.src, p.dst, p.proto, p.id, S.now, [], false, 0⟩ := by
        rw [List.getElem?_append_right (Nat.le_refl _)]; simp
      simp only [Option.getD_none, hl]
      have hnew := eok_new (ownerM S p) p.src p.dst p.proto p.id S.now
      have hfw : ∀ o, (S.ents ++ [(⟨ownerM S p, p.src, p.dst, p.proto, p.id, S.now, [], false, 0⟩ : Ent)]).flatMap (fo o) = S.ents.flatMap (fo o) := by
        intro o
        rw [List.flatMap_append]
        have : fo o (⟨ownerM S p, p.src, p.dst, p.proto, p.id, S.now, [], false, 0⟩ : Ent) = [] := by unfold fo waitL; split <;> rfl
        simp [this]
      have hr := eok_taken S _ p seq hnew hp rfl
      refine ⟨cok_taken S _ _ _ p seq h hl hp ?_ rfl ?_ ?_ ?_, seqs_taken S _ _ _ p seq hl ?_ (fun hw => wait_known _ hr (whole_known _ hr hw))⟩
      · intro x hx
        rw [List.mem_append, List.mem_singleton] at hx
        rcases hx with hx | rfl
        · exact h.ents x hx
        · exact ⟨hnew, rfl⟩
      · intro o
        have h1 := h.few o
        rw [entsM_eq] at h1
        rw [List.flatMap_append, List.length_append]
        have e1 : ([(⟨ownerM S p, p.src, p.dst, p.proto, p.id, S.now, [], false, 0⟩ : Ent)].flatMap (go1 o)).length = if (ownerM S p == o) then 1 else 0 := by
          rw [List.flatMap_cons, List.flatMap_nil, List.append_nil, go1]
          simp only
          split <;> rfl
        rw [e1]
        by_cases ho : ownerM S p = o
        · subst ho
          have h2 := f1 rfl
          rw [entsM_eq] at h2
          rw [if_pos (beq_self_eq_true _)]
          omega
        · rw [if_neg (by simpa using ho)]
          omega
      · intro o
        rw [hfw, ← heldB_eq]
        exact h.held o
      · intro ha _
        rw [hfw, ← heldB_eq]
        have := f3 ha (by intro x hx; cases hx)
        show heldB S (ownerM S p) + _ ≤ 48
        omega
      · rw [List.flatMap_append]
        simp [waitS, waitL]
    | some k =>
      obtain ⟨e, he, hlk⟩ := atM_some _ _ _ hi
      rw [hi] at hf
      simp only [Option.bind_some, he] at hf
      obtain ⟨_, f2, f3⟩ := refused_zero _ _ _ _ hf
      have hem := List.mem_of_getElem? he
      have heo := h.ents e hem
      simp only [Option.getD_some, he]
      have hr := eok_taken S _ p seq heo.1 hp (f2 e rfl)
      refine ⟨cok_taken S _ _ _ p seq h he hp h.ents (f2 e rfl) ?_ ?_ ?_, seqs_taken S _ _ _ p seq he (List.Perm.refl _) (fun hw => wait_known _ hr (whole_known _ hr hw))⟩
      · intro o; rw [← entsM_eq]; exact h.few o
      · intro o; rw [← heldB_eq]; exact h.held o
      · intro ha hkn
        have := f3 ha (by intro x hx; cases hx; exact hkn)
        rw [← heldB_eq, heo.2, like_owner S e p hlk]
        omega

end Go.Proofs.YtajphdppmdoalaaGreat

namespace Go.Proofs.YtajphdppmdoalaaGreat

def backM (S : Cl) (T : List Int) : Cl := { S with slots := T }
def takeM (S : Cl) : Cl := { S with evs := [] }
theorem back_cok (S : Cl) (T : List Int) (h : COK S) : COK (backM S T) := ⟨h.reps, h.ents, h.sent, h.few, h.held⟩
theorem take_cok (S : Cl) (h : COK S) : COK (takeM S) := ⟨h.reps, h.ents, h.sent, h.few, h.held⟩
theorem next_cok (S : Cl) (h : COK S) : COK { S with next := S.next + 1 } := ⟨h.reps, h.ents, h.sent, h.few, h.held⟩
theorem arrive_cok (S : Cl) (rep : Int) (u : Option Pk) (h : COK S) (hu : ∀ p, u = some p → wholePk p = false → PkOK p) : COK (arriveM S rep u) ∧ (seqsM (arriveM S rep u)).Perm (S.next :: seqsM S) := by
  have hn := next_cok S h
  unfold arriveM
  simp only
  cases u with
  | none => exact ⟨told_cok _ _ _ _ hn, seqs_told _ _ _ _⟩
  | some p =>
    simp only
    cases hp : wholePk p with
    | true =>
      simp only [if_true]
      split
      · exact ⟨told_cok _ _ _ _ hn, seqs_told _ _ _ _⟩
      · exact ⟨told_cok _ _ _ _ hn, seqs_told _ _ _ _⟩
    | false =>
      have hpk := hu p rfl hp
      simp only [Bool.false_eq_true, if_false]
      split
      · exact piece_cok { S with next := S.next + 1 } S.next p hn hpk
      · refine ⟨⟨h.reps, h.ents, ?_, h.few, h.held⟩, ?_⟩
        · intro s hs
          rw [List.mem_append, List.mem_singleton] at hs
          rcases hs with hs | rfl
          · exact h.sent s hs
          · exact hpk
        · unfold seqsM
          simp only [List.map_append, List.map_cons, List.map_nil]
          rw [List.perm_iff_count]
          intro a
          simp only [List.count_append, List.count_cons, List.count_nil]
          omega
/-- Sorting entries by their owners: nothing is lost where each has an owner below n. -/
theorem by_owner {β} [BEq β] [LawfulBEq β] (f : Ent → List β) (l : List Ent) (n : Nat) (h : ∀ e ∈ l, 0 ≤ e.owner ∧ e.owner < n) : ((List.range n).flatMap (fun (o : Nat) => (l.filter (fun e => e.owner == (o : Int))).flatMap f)).Perm (l.flatMap f) := by
  rw [List.perm_iff_count]
  intro a
  induction l with
  | nil =>
    have hz : ∀ m : List Nat, m.flatMap (fun (o : Nat) => (([] : List Ent).filter (fun e => e.owner == (o : Int))).flatMap f) = [] := by
      intro m
      induction m with
      | nil => rfl
      | cons x m ih => rw [List.flatMap_cons, ih]; rfl
    rw [hz]
    rfl
  | cons e l ih =>
    have ih := ih (fun x hx => h x (List.mem_cons_of_mem _ hx))
    have he := h e List.mem_cons_self
    rw [List.flatMap_cons, List.count_append, ← ih]
    have key : ∀ m : Nat, ((List.range m).flatMap (fun (o : Nat) => ((e :: l).filter (fun e => e.owner == (o : Int))).flatMap f)).count a = (if e.owner < m then (f e).count a else 0) + ((List.range m).flatMap (fun (o : Nat) => (l.filter (fun e => e.owner == (o : Int))).flatMap f)).count a := by
      intro m
      induction m with
      | zero =>
        rw [if_neg (by omega)]
        rfl
      | succ m ihm =>
        rw [List.range_succ, List.flatMap_append, List.flatMap_append, List.count_append, List.count_append, ihm]
        simp only [List.flatMap_cons, List.flatMap_nil, List.append_nil, List.filter_cons]
        by_cases hm : e.owner = (m : Int)
        · have hc : (e.owner == (m : Int)) = true := by simpa using hm
          have h1 : ¬ e.owner < (m : Int) := by omega
          have h2 : e.owner < ((m + 1 : Nat) : Int) := by omega
          simp only [hc, h1, h2, if_true, if_false, List.flatMap_cons, List.count_append]
          omega
        · have hc : (e.owner == (m : Int)) = false := by simpa using hm
          by_cases hlt : e.owner < (m : Int)
          · have h2 : e.owner < ((m + 1 : Nat) : Int) := by omega
            simp only [hc, hlt, h2, if_true, Bool.false_eq_true, if_false]
            omega
          · have h2 : ¬ e.owner < ((m + 1 : Nat) : Int) := by omega
            simp only [hc, hlt, h2, Bool.false_eq_true, if_false]
            omega
    rw [key n, if_pos he.2]
end Go.Proofs.YtajphdppmdoalaaGreat

namespace Go.Proofs.YtajphdppmdoalaaGreat
set_option linter.unusedVariables false

/-- A packet's numbers, in their bounds. -/
structure PkB (p : Pk) : Prop where
  src : 0 ≤ p.src ∧ p.src ≤ 65535
  dst : 0 ≤ p.dst ∧ p.dst ≤ 65535
  proto : 0 ≤ p.proto ∧ p.proto ≤ 255
  id : 0 ≤ p.id ∧ p.id ≤ 65535
  off : 0 ≤ p.off ∧ p.off ≤ 15
  sport : 0 ≤ p.sport ∧ p.sport ≤ 65535
  dport : 0 ≤ p.dport ∧ p.dport ≤ 65535
  dlen : p.dlen ≤ 32
/-- An entry's numbers, in their bounds. -/
structure EB (e : Ent) (now : Int) : Prop where
  src : 0 ≤ e.src ∧ e.src ≤ 65535
  dst : 0 ≤ e.dst ∧ e.dst ≤ 65535
  proto : 0 ≤ e.proto ∧ e.proto ≤ 255
  id : 0 ≤ e.id ∧ e.id ≤ 65535
  born : 0 ≤ e.born ∧ e.born ≤ now
  to : 0 ≤ e.to ∧ e.to ≤ 255
  pcs : ∀ q ∈ e.pcs, q.a ≤ 60 ∧ q.b ≤ 92 ∧ q.seq ≤ 2000000000000
/-- A cluster whose numbers are in their bounds. -/
structure Sml (S : Cl) : Prop where
  cok : COK S
  reps : S.reps ≤ 5
  life : 1 ≤ S.life ∧ S.life ≤ 20
  now : 0 ≤ S.now ∧ S.now ≤ 2000000000000
  next : S.next ≤ 2000000000000
  cnt : (seqsM S).length ≤ S.next
  ents : ∀ e ∈ S.ents, EB e S.now
  sent : ∀ s ∈ S.sent, PkB s.p ∧ s.seq ≤ 2000000000000
  slots : S.slots = [] ∨ S.slots.length = 31
  slot : ∀ z ∈ S.slots, 0 ≤ z ∧ z ≤ 255

theorem piece_same (S : Cl) (seq : Nat) (p : Pk) : (pieceM S seq p).reps = S.reps ∧ (pieceM S seq p).life = S.life ∧ (pieceM S seq p).now = S.now ∧ (pieceM S seq p).next = S.next ∧ (pieceM S seq p).slots = S.slots ∧ (pieceM S seq p).sent = S.sent := by
  unfold pieceM toldM
  simp only
  repeat' split
  all_goals exact ⟨rfl, rfl, rfl, rfl, rfl, rfl⟩
theorem chosen_bd (S : Cl) (p : Pk) (h : ∀ z ∈ S.slots, 0 ≤ z ∧ z ≤ 255) : 0 ≤ chosenM S p ∧ chosenM S p ≤ 255 := by
  unfold chosenM
  rw [List.getD_eq_getElem?_getD]
  cases hg : S.slots[(flH p.src p.dst p.proto p.sport p.dport).toNat % 31]? with
  | none => simp
  | some z => exact h z (List.mem_of_getElem? hg)
theorem pcM_bd (seq : Nat) (p : Pk) (hb : PkB p) (hq : seq ≤ 2000000000000) : (pcM seq p).a ≤ 60 ∧ (pcM seq p).b ≤ 92 ∧ (pcM seq p).seq ≤ 2000000000000 := by
  have := hb.off
  have := hb.dlen
  unfold pcM
  simp only
  omega
theorem taken_eb (S : Cl) (e : Ent) (p : Pk) (seq : Nat) (he : EB e S.now) (hs : ∀ z ∈ S.slots, 0 ≤ z ∧ z ≤ 255) (hb : PkB p) (hq : seq ≤ 2000000000000) : EB (takenM S e p (pcM seq p)).1 S.now := by
  refine ⟨he.src, he.dst, he.proto, he.id, he.born, ?_, ?_⟩
  · unfold takenM
    simp only
    split
    · exact chosen_bd S p hs
    · exact he.to
  · intro q hq'
    unfold takenM at hq'
    simp only [List.mem_append, List.mem_map, List.mem_singleton] at hq'
    rcases hq' with ⟨r, hr, rfl⟩ | rfl
    · have := he.pcs r hr
      split <;> exact this
    · exact pcM_bd seq p hb hq
theorem piece_eb (S : Cl) (seq : Nat) (p : Pk) (h : ∀ e ∈ S.ents, EB e S.now) (hn : 0 ≤ S.now) (hs : ∀ z ∈ S.slots, 0 ≤ z ∧ z ≤ 255) (hb : PkB p) (hq : seq ≤ 2000000000000) : ∀ e ∈ (pieceM S seq p).ents, EB e S.now := by
  unfold pieceM
  simp only
  split
  · exact h
  · rename_i hf
    have main : ∀ (l : List Ent) (k : Nat), (∀ e ∈ l, EB e S.now) → ∀ x ∈ (match l[k]? with
        | none => S
        | some e => { S with evs := S.evs ++ (takenM S e p (pcM seq p)).2, ents := if wholeM (takenM S e p (pcM seq p)).1 then goneM l k else l.set k (takenM S e p (pcM seq p)).1 }).ents, EB x S.now := by
      intro l k hl x hx
      split at hx
      · exact h x hx
      · rename_i e he
        simp only at hx
        split at hx
        · exact hl x (mem_gone _ _ _ hx)
        · rcases List.mem_or_eq_of_mem_set hx with h1 | rfl
          · exact hl x h1
          · exact taken_eb S e p seq (hl e (List.mem_of_getElem? he)) hs hb hq
    cases hi : atM S.ents p with
    | none =>
      refine main _ _ ?_
      intro e he
      simp only [List.mem_append, List.mem_singleton] at he
      rcases he with he | rfl
      · exact h e he
      · exact ⟨hb.src, hb.dst, hb.proto, hb.id, ⟨hn, Int.le_refl _⟩, ⟨Int.le_refl _, by simp only; omega⟩, by simp⟩
    | some k => exact main _ _ h
theorem sml_piece (S : Cl) (seq : Nat) (p : Pk) (h : Sml S) (hc : (seqsM S).length + 1 ≤ S.next) (hp : PkOK p) (hb : PkB p) (hq : seq ≤ 2000000000000) : Sml (pieceM S seq p) := by
  obtain ⟨h1, h2⟩ := piece_cok S seq p h.cok hp
  obtain ⟨e1, e2, e3, e4, e5, e6⟩ := piece_same S seq p
  refine ⟨h1, by rw [e1]; exact h.reps, by rw [e2]; exact h.life, by rw [e3]; exact h.now, by rw [e4]; exact h.next, ?_, ?_, by rw [e6]; exact h.sent, by rw [e5]; exact h.slots, by rw [e5]; exact h.slot⟩
  · rw [e4, h2.length_eq, List.length_cons]; exact hc
  · rw [e3]; exact piece_eb S seq p h.ents h.now.1 h.slot hb hq
theorem sml_new (reps life : Int) (h : 1 ≤ reps) (h5 : reps ≤ 5) (hl : 1 ≤ life ∧ life ≤ 20) : Sml (Cl.new reps life) :=
  ⟨cok_new reps life h, h5, hl, ⟨by simp [Cl.new], by simp [Cl.new]⟩, by simp [Cl.new], by simp [Cl.new, seqsM], by simp [Cl.new], by simp [Cl.new], .inl rfl, by simp [Cl.new]⟩
theorem sml_back (S : Cl) (T : List Int) (h : Sml S) (h1 : T = [] ∨ T.length = 31) (h2 : ∀ z ∈ T, 0 ≤ z ∧ z ≤ 255) : Sml (backM S T) :=
  ⟨back_cok S T h.cok, h.reps, h.life, h.now, h.next, h.cnt, h.ents, h.sent, h1, h2⟩
theorem sml_told (S : Cl) (seq : Nat) (f w : Int) (h : Sml S) (hc : (seqsM S).length + 1 ≤ S.next) : Sml (toldM S seq f w) :=
  ⟨told_cok S seq f w h.cok, h.reps, h.life, h.now, h.next, by rw [(seqs_told S seq f w).length_eq, List.length_cons]; exact hc, h.ents, h.sent, h.slots, h.slot⟩
theorem sml_next (S : Cl) (h : Sml S) (hn : S.next + 1 ≤ 2000000000000) : Sml { S with next := S.next + 1 } ∧ (seqsM { S with next := S.next + 1 }).length + 1 ≤ S.next + 1 := by
  have : seqsM { S with next := S.next + 1 } = seqsM S := rfl
  refine ⟨⟨next_cok S h.cok, h.reps, h.life, h.now, hn, ?_, h.ents, h.sent, h.slots, h.slot⟩, ?_⟩
  · rw [this]; have := h.cnt; simp only; omega
  · rw [this]; have := h.cnt; omega
theorem sml_arrive (S : Cl) (rep : Int) (u : Option Pk) (h : Sml S) (hn : S.next + 1 ≤ 2000000000000) (hu : ∀ p, u = some p → PkB p ∧ (wholePk p = false → PkOK p)) : Sml (arriveM S rep u) := by
  obtain ⟨h1, h2⟩ := sml_next S h hn
  unfold arriveM
  simp only
  cases u with
  | none => exact sml_told _ _ _ _ h1 h2
  | some p =>
    simp only
    obtain ⟨hb, hp⟩ := hu p rfl
    cases hw : wholePk p with
    | true =>
      simp only [if_true]
      split
      · exact sml_told _ _ _ _ h1 h2
      · exact sml_told _ _ _ _ h1 h2
    | false =>
      simp only [Bool.false_eq_true, if_false]
      split
      · exact sml_piece _ _ _ h1 h2 (hp hw) hb (by omega)
      · have hc := (arrive_cok S rep (some p) h.cok (fun q hq hq' => by cases hq; exact hp hq'))
        unfold arriveM at hc
        simp only [hw, Bool.false_eq_true, if_false] at hc
        rename_i hr
        simp only [hr, if_false] at hc
        refine ⟨hc.1, h.reps, h.life, h.now, hn, ?_, h.ents, ?_, h.slots, h.slot⟩
        · rw [hc.2.length_eq, List.length_cons]; exact Nat.succ_le_succ h.cnt
        · intro s hs
          simp only [List.mem_append, List.mem_singleton] at hs
          rcases hs with hs | rfl
          · exact h.sent s hs
          · exact ⟨hb, by simp only; omega⟩
theorem sml_take (S : Cl) (h : Sml S) : Sml (takeM S) := by
  refine ⟨take_cok S h.cok, h.reps, h.life, h.now, h.next, ?_, h.ents, h.sent, h.slots, h.slot⟩
  have := h.cnt
  simp only [seqsM, takeM, List.map_nil, List.nil_append, List.length_append] at *
  omega
/-- An entry has few pieces. -/
theorem pcs_few (e : Ent) (h : EOK e) (hb : ∀ q ∈ e.pcs, q.a ≤ 60 ∧ q.b ≤ 92 ∧ q.seq ≤ 2000000000000) : e.pcs.length ≤ 92 := by
  have h1 := bytes_le e.pcs 0 92 (by decide) h.apart (fun q hq => by have := h.pos q hq; have := hb q hq; omega)
  have h2 : ∀ l : List Pc, (∀ q ∈ l, 0 ≤ q.a ∧ q.a < q.b) → (l.length : Int) ≤ bytesL l := by
    intro l
    induction l with
    | nil => intro _; simp [bytesL]
    | cons q l ih =>
      intro hq
      have h3 := hq q List.mem_cons_self
      have h4 := ih (fun r hr => hq r (List.mem_cons_of_mem _ hr))
      simp only [bytesL, List.map_cons, List.sum_cons, List.length_cons] at *
      omega
  have := h2 e.pcs h.pos
  omega
theorem len_one (l : List Ent) : (l.flatMap (fun e => [e.src])).length = l.length := by
  induction l with
  | nil => rfl
  | cons e l ih => rw [List.flatMap_cons, List.length_append, ih, List.length_cons]; simp; omega
/-- A cluster has few entries. -/
theorem ents_few (S : Cl) (h : Sml S) : S.ents.length ≤ 15 := by
  have h5 := h.reps
  have h1 := h.cok.reps
  have hp := (by_owner (fun e => [e.src]) S.ents 5 (fun e he => by have := cok_owner S h.cok e he; omega)).length_eq
  have hl := len_one S.ents
  have hf : ∀ o : Int, ((S.ents.filter (fun e => e.owner == o)).flatMap (fun e => [e.src])).length ≤ 3 := by
    intro o
    rw [len_one]
    exact h.cok.few o
  have h0 := hf 0
  have h2 := hf 1
  have h3 := hf 2
  have h4 := hf 3
  have h6 := hf 4
  simp only [List.range, List.range.loop, List.flatMap_cons, List.flatMap_nil, List.length_append, List.length_nil] at hp
  have e0 : ((0 : Nat) : Int) = 0 := rfl
  have e1 : ((1 : Nat) : Int) = 1 := rfl
  have e2 : ((2 : Nat) : Int) = 2 := rfl
  have e3 : ((3 : Nat) : Int) = 3 := rfl
  have e4 : ((4 : Nat) : Int) = 4 := rfl
  rw [e0, e1, e2, e3, e4] at hp
  omega

end Go.Proofs.YtajphdppmdoalaaGreat

namespace Go.Proofs.YtajphdppmdoalaaGreat
set_option linter.unusedVariables false

/-- No two entries are of one datagram. -/
def Uq (l : List Ent) : Prop := l.Pairwise (fun e f => ¬ (e.src = f.src ∧ e.dst = f.dst ∧ e.proto = f.proto ∧ e.id = f.id))
/-- The entry behind an accepted piece, and what is told, with the backend b for a first piece. -/
def takenB (b : Int) (e : Ent) (n : Pc) : Ent × List Ev :=
  let known := e.known || decide (n.a = 0)
  let «to» := if n.a = 0 then b else e.to
  ({ e with known := known, «to» := to, pcs := e.pcs.map (fun q => if known then { q with waits := false } else q) ++ [{ n with waits := !known }] },
    if known then ⟨n.seq, 0, to⟩ :: (waitL e).map (fun q => ⟨q.seq, 0, to⟩) else [])
theorem taken_b (S : Cl) (e : Ent) (p : Pk) (n : Pc) : takenM S e p n = takenB (chosenM S p) e n := rfl
/-- Why a piece is not accepted by one replica with entries L, k being the place of its entry. -/
def refS (L : List Ent) (k : Nat) (n : Pc) (ok : Bool) : Int :=
  if n.a = 0 ∧ ok = false then 2
  else if L.length ≤ k ∧ 3 ≤ L.length then 4
  else if (L[k]?.map (fun e => e.pcs.any (fun q => clashM q n))).getD false then 3
  else if 0 < n.a ∧ (L[k]?.map (·.known)).getD false = false ∧ 48 < bytesL (L.flatMap waitL) + n.b - n.a then 4
  else 0
def newS (own now : Int) (p : Pk) : Ent := ⟨own, p.src, p.dst, p.proto, p.id, now, [], false, 0⟩
/-- The entries, with one that begins if there is none at k. -/
def begS (L : List Ent) (own now : Int) (p : Pk) (k : Nat) : List Ent := if k < L.length then L else L ++ [newS own now p]
/-- A piece comes to a replica with entries L. -/
def comeS (L : List Ent) (own now : Int) (seq : Nat) (p : Pk) (b : Int) (ok : Bool) : List Ent × List Ev :=
  let n := pcM seq p
  let k := L.findIdx (likeM · p)
  if refS L k n ok ≠ 0 then (L, [⟨seq, refS L k n ok, 0⟩])
  else
    let l := begS L own now p k
    match l[k]? with
    | none => (L, [])
    | some e => (if wholeM (takenB b e n).1 then goneM l k else l.set k (takenB b e n).1, (takenB b e n).2)

theorem find_mid {α} (f : α → Bool) (A B : List α) (e : α) (hA : ∀ a ∈ A, f a = false) (he : f e = true) : (A ++ e :: B).findIdx f = A.length := by
  induction A with
  | nil => simp [List.findIdx_cons, he]
  | cons a A ih =>
    rw [List.cons_append, List.findIdx_cons, hA a List.mem_cons_self, ih (fun x hx => hA x (List.mem_cons_of_mem _ hx))]
    simp
theorem find_none {α} (f : α → Bool) (A : List α) (hA : ∀ a ∈ A, f a = false) : A.findIdx f = A.length := by
  induction A with
  | nil => rfl
  | cons a A ih =>
    rw [List.findIdx_cons, hA a List.mem_cons_self, ih (fun x hx => hA x (List.mem_cons_of_mem _ hx))]
    simp
theorem atM_none (l : List Ent) (p : Pk) (h : atM l p = none) : ∀ e ∈ l, likeM e p = false := by
  intro e he
  obtain ⟨i, hi, rfl⟩ := List.getElem_of_mem he
  rw [atM, List.getLast?_eq_none_iff] at h
  have := List.filter_eq_nil_iff.1 h i (List.mem_range.2 hi)
  rw [List.getElem?_eq_getElem hi] at this
  simpa using this
theorem like_key (e : Ent) (p : Pk) (h : likeM e p = true) : e.src = p.src ∧ e.dst = p.dst ∧ e.proto = p.proto ∧ e.id = p.id := by
  simp only [likeM, Bool.and_eq_true, beq_iff_eq] at h
  exact ⟨h.1.1.1, h.1.1.2, h.1.2, h.2⟩
theorem like_not (e : Ent) (p : Pk) (h : ¬ (e.src = p.src ∧ e.dst = p.dst ∧ e.proto = p.proto ∧ e.id = p.id)) : likeM e p = false := by
  cases hl : likeM e p with
  | false => rfl
  | true => exact absurd (like_key e p hl) h
/-- Of no two entries that one is like a packet, the other ones are not. -/
theorem uq_mid (A B : List Ent) (e : Ent) (p : Pk) (h : Uq (A ++ e :: B)) (he : likeM e p = true) : ∀ a ∈ A, likeM a p = false := by
  intro a ha
  refine like_not a p ?_
  intro hk
  have := (List.pairwise_append.1 h).2.2 a ha e List.mem_cons_self
  have h2 := like_key e p he
  exact this ⟨hk.1.trans h2.1.symm, hk.2.1.trans h2.2.1.symm, hk.2.2.1.trans h2.2.2.1.symm, hk.2.2.2.trans h2.2.2.2.symm⟩
theorem gone_mid {α} (A B : List α) (e : α) : (A ++ e :: B).take A.length ++ (A ++ e :: B).drop (A.length + 1) = A ++ B := by
  rw [List.take_left', List.drop_append]
  · simp
  · rfl
theorem set_mid {α} (A B : List α) (e r : α) : (A ++ e :: B).set A.length r = A ++ r :: B := by
  rw [List.set_append_right _ _ (Nat.le_refl _)]
  simp
theorem get_mid {α} (A B : List α) (e : α) : (A ++ e :: B)[A.length]? = some e := by
  rw [List.getElem?_append_right (Nat.le_refl _)]
  simp
/-- What a piece does, seen by replicas. -/
theorem piece_store (S : Cl) (seq : Nat) (p : Pk) (h : COK S) (hu : Uq S.ents) :
    (pieceM S seq p).evs = S.evs ++ (comeS (entsM S (ownerM S p)) (ownerM S p) S.now seq p (chosenM S p) (!S.slots.isEmpty)).2 ∧
    entsM (pieceM S seq p) (ownerM S p) = (comeS (entsM S (ownerM S p)) (ownerM S p) S.now seq p (chosenM S p) (!S.slots.isEmpty)).1 ∧
    (∀ o, o ≠ ownerM S p → entsM (pieceM S seq p) o = entsM S o) ∧ Uq (pieceM S seq p).ents := by
  have hok : ∀ n : Pc, (n.a = 0 ∧ S.slots = []) ↔ (n.a = 0 ∧ (!S.slots.isEmpty) = false) := by intro n; simp
  cases hi : atM S.ents p with
  | none =>
    have hno := atM_none _ _ hi
    have hk : (entsM S (ownerM S p)).findIdx (likeM · p) = (entsM S (ownerM S p)).length := find_none _ _ (fun a ha => hno a (List.mem_filter.1 ha).1)
    have hr : refusedM S none p (pcM seq p) = refS (entsM S (ownerM S p)) (entsM S (ownerM S p)).length (pcM seq p) (!S.slots.isEmpty) := by
      unfold refusedM refS
      simp only [hok, Option.isNone_none, true_and, Nat.le_refl, Option.map_none, Option.getD_none, List.getElem?_eq_none (Nat.le_refl _)]
      rfl
    unfold pieceM comeS begS
    simp only [hi, Option.bind_none, hk, hr, Option.getD_none, Nat.lt_irrefl, if_false]
    split
    · refine ⟨rfl, rfl, fun _ _ => rfl, hu⟩
    · rw [get_mid (S.ents) [] _]
      have h2 := get_mid (entsM S (ownerM S p)) [] (newS (ownerM S p) S.now p)
      rw [h2]
      simp only [taken_b]
      have hall : ∀ o, entsM { S with ents := S.ents ++ [newS (ownerM S p) S.now p] } o = entsM S o ++ (if ownerM S p == o then [newS (ownerM S p) S.now p] else []) := by
        intro o
        simp only [entsM, List.filter_append, List.filter_cons, List.filter_nil]
        rfl
      have hnew : (⟨ownerM S p, p.src, p.dst, p.proto, p.id, S.now, [], false, 0⟩ : Ent) = newS (ownerM S p) S.now p := rfl
      rw [hnew]
      have hset : (S.ents ++ [newS (ownerM S p) S.now p]).set S.ents.length (takenB (chosenM S p) (newS (ownerM S p) S.now p) (pcM seq p)).1 = S.ents ++ [(takenB (chosenM S p) (newS (ownerM S p) S.now p) (pcM seq p)).1] := set_mid _ [] _ _
      have hset2 : (entsM S (ownerM S p) ++ [newS (ownerM S p) S.now p]).set (entsM S (ownerM S p)).length (takenB (chosenM S p) (newS (ownerM S p) S.now p) (pcM seq p)).1 = entsM S (ownerM S p) ++ [(takenB (chosenM S p) (newS (ownerM S p) S.now p) (pcM seq p)).1] := set_mid _ [] _ _
      have hg : goneM (S.ents ++ [newS (ownerM S p) S.now p]) S.ents.length = S.ents := by
        have := gone_mid S.ents [] (newS (ownerM S p) S.now p)
        rw [List.append_nil] at this
        exact this
      have hg2 : goneM (entsM S (ownerM S p) ++ [newS (ownerM S p) S.now p]) (entsM S (ownerM S p)).length = entsM S (ownerM S p) := by
        have := gone_mid (entsM S (ownerM S p)) [] (newS (ownerM S p) S.now p)
        rw [List.append_nil] at this
        exact this
      rw [hset, hset2, hg, hg2]
      have hown : (takenB (chosenM S p) (newS (ownerM S p) S.now p) (pcM seq p)).1.owner = ownerM S p := rfl
      refine ⟨rfl, ?_, ?_, ?_⟩
      · rcases (Bool.eq_false_or_eq_true (wholeM (takenB (chosenM S p) (newS (ownerM S p) S.now p) (pcM seq p)).1)).symm with hw | hw <;> simp only [hw, if_true, Bool.false_eq_true, if_false]
        · simp only [entsM, List.filter_append, List.filter_cons, List.filter_nil, hown, beq_self_eq_true, if_true]
        · rfl
      · intro o ho
        rcases (Bool.eq_false_or_eq_true (wholeM (takenB (chosenM S p) (newS (ownerM S p) S.now p) (pcM seq p)).1)).symm with hw | hw <;> simp only [hw, if_true, Bool.false_eq_true, if_false]
        · simp only [entsM, List.filter_append, List.filter_cons, List.filter_nil, hown, show (ownerM S p == o) = false from by simpa using fun x => ho x.symm]
          simp
        · rfl
      · rcases (Bool.eq_false_or_eq_true (wholeM (takenB (chosenM S p) (newS (ownerM S p) S.now p) (pcM seq p)).1)).symm with hw | hw <;> simp only [hw, if_true, Bool.false_eq_true, if_false]
        · refine List.pairwise_append.2 ⟨hu, by simp, ?_⟩
          intro a ha b hb
          simp only [List.mem_singleton] at hb
          subst hb
          intro hk2
          have := hno a ha
          rw [likeM, hk2.1, hk2.2.1, hk2.2.2.1, hk2.2.2.2] at this
          simp [takenB, newS] at this
        · exact hu
  | some i =>
    obtain ⟨e, he, hl⟩ := atM_some _ _ _ hi
    have hsp := split_at S.ents i e he
    have hown : e.owner = ownerM S p := by
      rw [(h.ents e (List.mem_of_getElem? he)).2]
      exact like_owner S e p hl
    have hA : S.ents.take i ++ e :: S.ents.drop (i + 1) = S.ents := hsp.symm
    have hlen : (S.ents.take i).length = i := by
      rw [List.length_take]
      have := (List.getElem?_eq_some_iff.1 he).1
      omega
    generalize S.ents.take i = A at hA hlen
    generalize S.ents.drop (i + 1) = B at hA
    have hf : ∀ (o : Int) (x : Ent), x.owner = ownerM S p → (A ++ x :: B).filter (·.owner == o) = if ownerM S p == o then A.filter (·.owner == o) ++ x :: B.filter (·.owner == o) else A.filter (·.owner == o) ++ B.filter (·.owner == o) := by
      intro o x hx
      rw [List.filter_append, List.filter_cons, hx]
      split <;> rfl
    have hE : entsM S (ownerM S p) = A.filter (·.owner == ownerM S p) ++ e :: B.filter (·.owner == ownerM S p) := by
      rw [entsM, ← hA, hf _ e hown]
      simp
    have huA : Uq (A ++ e :: B) := by rw [hA]; exact hu
    have hk : (entsM S (ownerM S p)).findIdx (likeM · p) = (A.filter (·.owner == ownerM S p)).length := by
      rw [hE]
      exact find_mid _ _ _ _ (fun a ha => uq_mid A B e p huA hl a (List.mem_filter.1 ha).1) hl
    have hg : (entsM S (ownerM S p))[(A.filter (·.owner == ownerM S p)).length]? = some e := by rw [hE]; exact get_mid _ _ _
    have hlt : (A.filter (·.owner == ownerM S p)).length < (entsM S (ownerM S p)).length := (List.getElem?_eq_some_iff.1 hg).1
    have hr : refusedM S (some e) p (pcM seq p) = refS (entsM S (ownerM S p)) (A.filter (·.owner == ownerM S p)).length (pcM seq p) (!S.slots.isEmpty) := by
      unfold refusedM refS
      simp only [hok, Option.isNone_some, Bool.false_eq_true, false_and, if_false, Option.map_some, Option.getD_some, hg, show ¬ ((entsM S (ownerM S p)).length ≤ (A.filter (·.owner == ownerM S p)).length) from by omega]
      rfl
    have h1 : (some i).bind (fun k => S.ents[k]?) = some e := he
    unfold pieceM comeS begS
    simp only [hi, h1, hk, hr, Option.getD_some, hlt, if_true, he, hg]
    split
    · exact ⟨rfl, rfl, fun _ _ => rfl, hu⟩
    · simp only [taken_b]
      have hown2 : (takenB (chosenM S p) e (pcM seq p)).1.owner = ownerM S p := hown
      have hset : S.ents.set i (takenB (chosenM S p) e (pcM seq p)).1 = A ++ (takenB (chosenM S p) e (pcM seq p)).1 :: B := by
        rw [← hA, ← hlen]; exact set_mid _ _ _ _
      have hgn : goneM S.ents i = A ++ B := by
        rw [goneM, ← hA, ← hlen]; exact gone_mid _ _ _
      have hset2 : (entsM S (ownerM S p)).set (A.filter (·.owner == ownerM S p)).length (takenB (chosenM S p) e (pcM seq p)).1 = A.filter (·.owner == ownerM S p) ++ (takenB (chosenM S p) e (pcM seq p)).1 :: B.filter (·.owner == ownerM S p) := by
        rw [hE]; exact set_mid _ _ _ _
      have hgn2 : goneM (entsM S (ownerM S p)) (A.filter (·.owner == ownerM S p)).length = A.filter (·.owner == ownerM S p) ++ B.filter (·.owner == ownerM S p) := by
        rw [goneM, hE]; exact gone_mid _ _ _
      rw [hset, hgn, hset2, hgn2]
      refine ⟨trivial, ?_, ?_, ?_⟩
      · rcases (Bool.eq_false_or_eq_true (wholeM (takenB (chosenM S p) e (pcM seq p)).1)).symm with hw | hw <;> simp only [hw, if_true, Bool.false_eq_true, if_false]
        · simp only [entsM]
          rw [hf _ _ hown2]
          simp
        · simp only [entsM, List.filter_append]
      · intro o ho
        have hno : (ownerM S p == o) = false := by simpa using fun x => ho x.symm
        have hSo : entsM S o = A.filter (·.owner == o) ++ B.filter (·.owner == o) := by
          rw [entsM, ← hA, hf _ e hown, hno]; simp
        rw [hSo]
        rcases (Bool.eq_false_or_eq_true (wholeM (takenB (chosenM S p) e (pcM seq p)).1)).symm with hw | hw <;> simp only [hw, if_true, Bool.false_eq_true, if_false]
        · simp only [entsM]
          rw [hf _ _ hown2, hno]
          simp
        · simp only [entsM, List.filter_append]
      · have h3 := List.pairwise_append.1 huA
        rcases (Bool.eq_false_or_eq_true (wholeM (takenB (chosenM S p) e (pcM seq p)).1)).symm with hw | hw <;> simp only [hw, if_true, Bool.false_eq_true, if_false]
        · refine List.pairwise_append.2 ⟨h3.1, List.pairwise_cons.2 ⟨?_, (List.pairwise_cons.1 h3.2.1).2⟩, ?_⟩
          · exact (List.pairwise_cons.1 h3.2.1).1
          · intro a ha b hb
            rcases List.mem_cons.1 hb with rfl | hb
            · exact h3.2.2 a ha e List.mem_cons_self
            · exact h3.2.2 a ha b (List.mem_cons_of_mem _ hb)
        · exact List.pairwise_append.2 ⟨h3.1, (List.pairwise_cons.1 h3.2.1).2, fun a ha b hb => h3.2.2 a ha b (List.mem_cons_of_mem _ hb)⟩
end Go.Proofs.YtajphdppmdoalaaGreat

namespace Go.Proofs.YtajphdppmdoalaaGreat
open Go.RowKit

theorem hide {p : Prop} (h : p) : Hid p := h
theorem unhide {p : Prop} (h : Hid p) : p := h
/-- What is left of a sum of 16-bit words when carries go round. -/
def norm (t : Int) : Int := if t = 0 then 0 else (t - 1) % 65535 + 1
theorem norm_bd (t : Int) (_ : 0 ≤ t) : 0 ≤ norm t ∧ norm t ≤ 65535 := by unfold norm; split <;> omega
theorem norm_lo (t u : Int) (h : 0 ≤ t) (hu : 0 ≤ u) (hu2 : u ≤ 65535) (hs : norm t + u ≤ 65535) : norm t + u = norm (t + u) := by
  unfold norm at *; split at hs <;> split <;> omega
theorem norm_hi (t u : Int) (h : 0 ≤ t) (hu : 0 ≤ u) (hu2 : u ≤ 65535) (hs : 65535 < norm t + u) : norm t + u + -65535 = norm (t + u) := by
  unfold norm at *; split at hs <;> split <;> omega
/-- The sum of the first words of a head. -/
def tk (h0 h1 h2 h3 h4 h5 h6 h7 h8 h9 : Int) : Nat → Int
  | 0 => 0
  | 1 => h0 * 256 + h1
  | 2 => h0 * 256 + h1 + (h2 * 256 + h3)
  | 3 => h0 * 256 + h1 + (h2 * 256 + h3) + (h4 * 256 + h5)
  | 4 => h0 * 256 + h1 + (h2 * 256 + h3) + (h4 * 256 + h5) + (h6 * 256 + h7)
  | _ => h0 * 256 + h1 + (h2 * 256 + h3) + (h4 * 256 + h5) + (h6 * 256 + h7) + (h8 * 256 + h9)
def csum (h0 h1 h2 h3 h4 h5 h6 h7 h8 h9 : Int) : Int := 65535 - norm (tk h0 h1 h2 h3 h4 h5 h6 h7 h8 h9 5)
theorem or_word (a b : Int) (ha0 : 0 ≤ a) (ha : a ≤ 255) (hb0 : 0 ≤ b) (hb : b ≤ 255) : bits .or .u16 (a * 256) b = a * 256 + b := by
  rw [u16_or _ _ (by omega) (by omega) (by omega) (by omega)]
  obtain ⟨x, rfl⟩ := Int.eq_ofNat_of_zero_le ha0
  obtain ⟨y, rfl⟩ := Int.eq_ofNat_of_zero_le hb0
  have h1 : ((x : Int) * 256).toNat = 2 ^ 8 * x := by omega
  have h2 : ((y : Int)).toNat = y := by omega
  rw [h1, h2, ← Nat.two_pow_add_eq_or_of_lt (by omega) x]
  omega
theorem ret_int {k : IntKind} {a b : Int} (h : a = b) : Ending.returned (.int k a) = .returned (.int k b) := by rw [h]
theorem ret_bool {a b : Bool} (h : a = b) : Ending.returned (.bool a) = .returned (.bool b) := by rw [h]
/-- Is a packet well-formed? -/
def wfB (off : Int) (more : Bool) (sport dport : Int) (n : Nat) : Bool :=
  decide (off ≤ 15) && decide (n ≤ 32) && (!more || (decide (n ≠ 0) && decide (n % 4 = 0))) && (decide (off = 0) || (decide (n ≠ 0) && decide (sport = 0) && decide (dport = 0)))
def pk (c n : Int) : Int := if c < 0 then (-(c + 1)) % n else c % n
def mk (more : Bool) : Int := if more then 17 else 16
def tl (off : Int) (n : Nat) : Int := if off = 0 then (n : Int) + 4 else n
/-- The checksum of a packet's head. -/
def cs (src dst proto id off : Int) (more : Bool) (n : Nat) : Int := csum (mk more) proto (src / 256) (src % 256) (dst / 256) (dst % 256) (id / 256) (id % 256) off (tl off n)
/-- The numbers zs lie behind an address (as bytes). -/
def Has (w : World) (ao : Option Addr) (zs : List Int) : Prop := (ao = none → zs = []) ∧ (zs ≠ [] → ∃ b o, ao = some ⟨b, o, none⟩ ∧ b < w.heap.size ∧ ∀ j, j < zs.length → w.cell? ⟨b, o + j, none⟩ = some (.int .u8 (zs.getD j 0)))
theorem Has.below {w w' : World} {ao : Option Addr} {zs : List Int} (h : Has w ao zs) (hb : Below w.heap.size w w') : Has w' ao zs := by
  refine ⟨h.1, fun hz => ?_⟩
  obtain ⟨b, o, rfl, hlt, hc⟩ := h.2 hz
  exact ⟨b, o, rfl, Nat.lt_of_lt_of_le hlt hb.size, fun j hj => (hb.cell (p := ⟨b, o + j, none⟩) hlt).trans (hc j hj)⟩
theorem Has.cells {w : World} {a : Addr} {zs : List Int} (h : Has w (some a) zs) : ∀ j u, (zs.map (Value.int .u8))[j]? = some u → w.cell? (a.add j) = some u := by
  intro j u hu
  have hj : j < zs.length := by
    by_cases hj : j < zs.length
    · exact hj
    · rw [List.getElem?_eq_none (by simp; omega)] at hu; exact absurd hu (by simp)
  obtain ⟨b, o, he, _, hc⟩ := h.2 (by intro e; subst e; simp at hj)
  obtain rfl : a = ⟨b, o, none⟩ := by simpa using he
  rw [List.getElem?_map, List.getElem?_eq_getElem hj] at hu
  have := hc j hj
  simp only [Option.map_some, Option.some.injEq] at hu
  subst hu
  rw [List.getD_eq_getElem?_getD, List.getElem?_eq_getElem hj] at this
  rw [show (⟨b, o, none⟩ : Addr).add j = ⟨b, o + j, none⟩ from by cases j <;> simp [Addr.add]]
  simpa using this

theorem box_cell {w w' : World} {cs : Array Value} {t : TypeId} (hb : Below (w.heap.size + 1) (w.alloc (.cells cs t)) w') (j : Nat) : w'.cell? ⟨w.heap.size, j, none⟩ = cs[j]? := by
  rw [hb.cell (p := ⟨w.heap.size, j, none⟩) (by simp)]
  exact World.cell?_alloc_at cs t _ j rfl
theorem ownsRow_base {w : World} {base base' : Nat} {e : TypeId} {size : Nat} {v : Value} {n : Nat} {xs : List Value} (h : w.ownsRow base e size v n xs) (hb : base' ≤ base) : w.ownsRow base' e size v n xs := by
  obtain ⟨h1, h2⟩ := h
  refine ⟨h1, ?_⟩
  rcases h2 with h2 | ⟨g, cap, cur, h3, h4, h5⟩
  · exact .inl h2
  · exact .inr ⟨g, cap, cur, h3, Nat.le_trans hb h4, h5⟩
theorem cells_new (w : World) (xs : List Value) (t : TypeId) : ∀ j u, xs[j]? = some u → (w.alloc (.cells xs.toArray t)).cell? ((⟨w.heap.size, 0, none⟩ : Addr).add j) = some u := by
  intro j u h
  rw [show (⟨w.heap.size, 0, none⟩ : Addr).add j = ⟨w.heap.size, j, none⟩ from by cases j <;> simp [Addr.add]]
  rw [World.cell?_alloc_at _ _ _ _ rfl]
  simpa using h
theorem below_old {w w' : World} {o : Obj} (h : Below (w.heap.size + 1) (w.alloc o) w') : Below w.heap.size w w' := ((Below.refl _ _).alloc (Nat.le_refl _) _).trans (h.mono (by omega))
theorem row_setCell {w : World} {g j : Nat} {cur : Array Value} {t : TypeId} (h : w.heap[g]? = some (.cells cur t (0, 0))) (u : Value) : (w.setCell ⟨g, j, none⟩ u).heap[g]? = some (.cells (cur.setIfInBounds j u) t (0, 0)) := by
  have hlt := lt_of_block h
  have h' : w.heap[g] = .cells cur t (0, 0) := by simpa [Array.getElem?_eq_getElem hlt] using h
  show (w.heap.modify g _)[g]? = _
  rw [Array.getElem?_eq_getElem (by simpa using hlt), Array.getElem_modify_self, h']
  rfl
theorem arr_cell {w : World} {g : Nat} {cs : Array Value} {t : TypeId} (h : w.heap[g]? = some (.cells cs t (0, 0))) (j : Nat) : w.cell? ⟨g, j, none⟩ = cs[j]? := by
  simp [World.cell?, h]
theorem arr_frozen {w : World} {g : Nat} {cs : Array Value} {t : TypeId} (h : w.heap[g]? = some (.cells cs t (0, 0))) (j : Nat) : w.frozen? ⟨g, j, none⟩ = false := by
  simp [World.frozen?, h]
theorem own_shape {w : World} {base : Nat} {e : TypeId} {v : Value} {n : Nat} {xs : List Value} (h : w.ownsRow base e 1 v n xs) : v = .slice none 0 0 ∨ ∃ g cv, v = .slice (some ⟨g, 0, none⟩) n cv := by
  rcases h.2 with ⟨h, _⟩ | ⟨g, cv, _, h, _⟩
  · exact .inl h
  · exact .inr ⟨g, cv, h⟩

end Go.Proofs.YtajphdppmdoalaaGreat

namespace Go.Proofs.YtajphdppmdoalaaGreat

/-- No entry is younger than the time. -/
def Born (S : Cl) : Prop := ∀ e ∈ S.ents, e.born ≤ S.now
theorem born_piece (S : Cl) (seq : Nat) (p : Pk) (h : Born S) : Born (pieceM S seq p) ∧ (pieceM S seq p).now = S.now ∧ (pieceM S seq p).life = S.life ∧ (pieceM S seq p).reps = S.reps ∧ (pieceM S seq p).slots = S.slots ∧ (pieceM S seq p).sent = S.sent := by
  unfold pieceM
  simp only
  split
  · exact ⟨h, rfl, rfl, rfl, rfl, rfl⟩
  · split
    · exact ⟨h, rfl, rfl, rfl, rfl, rfl⟩
    · rename_i e he
      refine ⟨?_, rfl, rfl, rfl, rfl, rfl⟩
      have hl : ∀ x ∈ (match atM S.ents p with | some _ => S.ents | none => S.ents ++ [(⟨ownerM S p, p.src, p.dst, p.proto, p.id, S.now, [], false, 0⟩ : Ent)]), x.born ≤ S.now := by
        cases atM S.ents p with
        | some _ => exact h
        | none =>
          intro x hx
          simp only [List.mem_append, List.mem_singleton] at hx
          rcases hx with hx | rfl
          · exact h x hx
          · exact Int.le_refl _
      intro x hx
      simp only at hx
      split at hx
      · exact hl x (mem_gone _ _ x hx)
      · rcases List.mem_or_eq_of_mem_set hx with hx | hx
        · exact hl x hx
        · subst hx
          exact hl e (List.mem_of_getElem? he)
end Go.Proofs.YtajphdppmdoalaaGreat

namespace Go.Proofs.YtajphdppmdoalaaGreat
set_option linter.unusedVariables false

/-- A cluster as it comes about, with all that the walks ask of it. -/
structure Good (S : Cl) : Prop where
  sml : Sml S
  uq : Uq S.ents
  dst : ∀ s ∈ S.sent, s.to = ownerM S s.p
  born : Born S
  evs : ∀ v ∈ S.evs, v.fate ≠ 0 → v.whr = 0
theorem good_new (reps life : Int) (h : 1 ≤ reps) (h5 : reps ≤ 5) (hl : 1 ≤ life ∧ life ≤ 20) : Good (Cl.new reps life) :=
  ⟨sml_new reps life h h5 hl, List.Pairwise.nil, by simp [Cl.new], by intro e he; simp [Cl.new] at he, by simp [Cl.new]⟩
theorem come_evs (L : List Ent) (own now : Int) (seq : Nat) (p : Pk) (b : Int) (ok : Bool) : ∀ v ∈ (comeS L own now seq p b ok).2, v.fate ≠ 0 → v.whr = 0 := by
  unfold comeS
  simp only
  split
  · intro v hv
    rw [List.mem_singleton.1 hv]
    intro _
    rfl
  · split
    · simp
    · unfold takenB
      simp only
      split
      · intro v hv hf
        rcases List.mem_cons.1 hv with rfl | hv
        · exact absurd rfl hf
        · obtain ⟨q, _, rfl⟩ := List.mem_map.1 hv
          exact absurd rfl hf
      · simp
theorem good_piece (S : Cl) (seq : Nat) (p : Pk) (h : Good S) (hc : (seqsM S).length + 1 ≤ S.next) (hp : PkOK p) (hb : PkB p) (hq : seq ≤ 2000000000000) : Good (pieceM S seq p) := by
  have hps := piece_store S seq p h.sml.cok h.uq
  have hsm := piece_same S seq p
  have hbn := born_piece S seq p h.born
  refine ⟨sml_piece S seq p h.sml hc hp hb hq, hps.2.2.2, ?_, hbn.1, ?_⟩
  · intro s hs
    rw [hsm.2.2.2.2.2] at hs
    have := h.dst s hs
    rw [this]
    unfold ownerM
    rw [hsm.1]
  · intro v hv
    rw [hps.1] at hv
    rcases List.mem_append.1 hv with hv | hv
    · exact h.evs v hv
    · exact come_evs _ _ _ _ _ _ _ v hv
theorem good_told (S : Cl) (seq : Nat) (f w : Int) (h : Good S) (hc : (seqsM S).length + 1 ≤ S.next) (hf : f ≠ 0 → w = 0) : Good (toldM S seq f w) := by
  refine ⟨sml_told S seq f w h.sml hc, h.uq, h.dst, h.born, ?_⟩
  intro v hv
  rcases List.mem_append.1 hv with hv | hv
  · exact h.evs v hv
  · rw [List.mem_singleton.1 hv]
    exact hf
theorem good_next (S : Cl) (h : Good S) (hn : S.next + 1 ≤ 2000000000000) : Good { S with next := S.next + 1 } ∧ (seqsM { S with next := S.next + 1 }).length + 1 ≤ S.next + 1 :=
  ⟨⟨(sml_next S h.sml hn).1, h.uq, h.dst, h.born, h.evs⟩, (sml_next S h.sml hn).2⟩
theorem good_arrive (S : Cl) (rep : Int) (u : Option Pk) (h : Good S) (hn : S.next + 1 ≤ 2000000000000) (hu : ∀ p, u = some p → PkB p ∧ (wholePk p = false → PkOK p)) : Good (arriveM S rep u) := by
  have hs := sml_arrive S rep u h.sml hn hu
  have h1 := good_next S h hn
  cases u with
  | none => exact good_told _ _ _ _ h1.1 h1.2 (fun _ => rfl)
  | some p =>
    obtain ⟨hb, hok⟩ := hu p rfl
    cases hw : wholePk p with
    | true =>
      have he : arriveM S rep (some p) = if S.slots = [] then toldM { S with next := S.next + 1 } S.next 2 0 else toldM { S with next := S.next + 1 } S.next 0 (chosenM S p) := by
        unfold arriveM
        simp only [hw, if_true]
      rw [he]
      split
      · exact good_told _ _ _ _ h1.1 h1.2 (fun _ => rfl)
      · exact good_told _ _ _ _ h1.1 h1.2 (fun hh => absurd rfl hh)
    | false =>
      by_cases ho : ownerM S p = rep
      · have he : arriveM S rep (some p) = pieceM { S with next := S.next + 1 } S.next p := by
          unfold arriveM
          simp only [hw, Bool.false_eq_true, if_false]
          rw [if_pos ho]
        rw [he]
        exact good_piece _ _ _ h1.1 h1.2 (hok hw) hb (by omega)
      · have he : arriveM S rep (some p) = { S with next := S.next + 1, sent := S.sent ++ [⟨S.next, rep, ownerM S p, p⟩] } := by
          unfold arriveM
          simp only [hw, Bool.false_eq_true, if_false]
          rw [if_neg ho]
        rw [he] at hs ⊢
        refine ⟨hs, h.uq, ?_, h.born, h.evs⟩
        intro s hsm
        rcases List.mem_append.1 hsm with hsm | hsm
        · exact h.dst s hsm
        · rw [List.mem_singleton.1 hsm]
          rfl
theorem good_take (S : Cl) (h : Good S) : Good (takeM S) := ⟨sml_take S h.sml, h.uq, h.dst, h.born, by simp [takeM]⟩
theorem good_back (S : Cl) (T : List Int) (h : Good S) (h1 : T = [] ∨ T.length = 31) (h2 : ∀ z ∈ T, 0 ≤ z ∧ z ≤ 255) : Good (backM S T) := ⟨sml_back S T h.sml h1 h2, h.uq, h.dst, h.born, h.evs⟩
end Go.Proofs.YtajphdppmdoalaaGreat
