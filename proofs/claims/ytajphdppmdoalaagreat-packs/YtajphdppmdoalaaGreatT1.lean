import Derived.Test.YtajphdppmdoalaaGreatM
import Derived.ArgAppend
namespace Go.Proofs.YtajphdppmdoalaaGreat
open Go.RowKit

theorem own_build (w : World) (e : TypeId) (xs : List Value) (hm : xs.length ≤ maxLen) : (w.alloc (.cells xs.toArray e)).ownsRow w.heap.size e 1 (.slice (some ⟨w.heap.size, 0, none⟩) xs.length xs.length) xs.length xs := by
  refine ⟨by simp, .inr ⟨w.heap.size, xs.length, xs.toArray, rfl, Nat.le_refl _, heap_alloc_new _ _, Nat.le_refl _, hm, by simp, by simp⟩⟩

/-- What the caller writes at place i of the k-th list. -/
def sgn (k : Int) (i : Nat) : Int := if i % 2 = 0 then k % 256 else k / 256 % 256
theorem sgn_bd (k : Int) (i : Nat) : 0 ≤ sgn k i ∧ sgn k i ≤ 255 := by unfold sgn; split <;> omega
def sg (k : Int) : Nat → List Int
  | 0 => []
  | m + 1 => sg k m ++ [sgn k m]
theorem sg_length (k : Int) (m : Nat) : (sg k m).length = m := by
  induction m with
  | zero => rfl
  | succ m ih => simp [sg, ih]
theorem sg_get (k : Int) (m j : Nat) (h : j < m) : (sg k m)[j]? = some (sgn k j) := by
  induction m with
  | zero => omega
  | succ m ih =>
    rw [sg]
    by_cases hj : j < m
    · rw [List.getElem?_append_left (by rw [sg_length]; exact hj)]; exact ih hj
    · obtain rfl : j = m := by omega
      rw [List.getElem?_append_right (by rw [sg_length]; omega), sg_length]; simp
theorem sg_getD (k : Int) (m j : Nat) (h : j < m) : (sg k m).getD j 0 = sgn k j := by
  rw [List.getD_eq_getElem?_getD, sg_get k m j h]; rfl

set_option maxHeartbeats 400000 in
theorem sign_any (k : Int) (i : Nat) (w : World) (hk0 : 0 ≤ k) (hk : k ≤ 9223372036854775807) (hi : i ≤ 9223372036854775807) :
    Calls Tryz.prog 23 #[.int .i64 k, .int .i64 i] w fun e w' => e = .returned (.int .u8 (sgn k i)) ∧ w' = w := by
  by_cases h : i % 2 = 0
  · have h1 : ((i : Int) % 2 == 0) = true := by simp; omega
    go_enter Tryz.func23, Tryz.ntmps23
    go_wp2
    go_ret
    exact ⟨ret_int (by simp [sgn, h]), rfl⟩
  · have h1 : ((i : Int) % 2 == 0) = false := by simp; omega
    go_enter Tryz.func23, Tryz.ntmps23
    go_wp2
    go_ret
    exact ⟨ret_int (by simp [sgn, h]), rfl⟩

theorem grownBy_any {w w' : World} (h : w.grownBy w' none) (row : Option Nat) : w.grownBy w' row :=
  ⟨h.os, h.tape, h.output, h.size, fun k hk _ => h.block k hk (by simp)⟩

/-- Old rows behind new ones. -/
theorem owns_kept {w w' : World} {base : Nat} {e : TypeId} {u : Value} {k : Nat} {ys : List Value} (h : w.ownsRow base e 1 u k ys) {row : Option Nat} (hg : w.grownBy w' row) (hne : u.ownBlock ≠ row) : w'.ownsRow base e 1 u k ys :=
  h.kept hg (.inr hne)

/-- 'append' onto a row of the call's own: what lay in a row before lies there still. -/
theorem wpList_append_keep {P : Program} (w : World) {ops : Array Oper} {rest : List Oper} {o : Oper} {a : Act} {Q : Exit → Act → World → Prop} (hgd : o.guard = none) (s x : Operand) (t : TypeId)
    (ho : o.op = .call { callee := .builtin .append, args := #[s, x], argTypes := #[t, t] })
    (base : Nat) (e : TypeId) (i : TypeInfo) (z : Value) (bytes : Nat) (ht : P.underlying t = some (.slice e)) (hi : P.info? e = some i) (hz : i.zero = some z)
    (hsize : i.size = 1) (hby : i.bytes = bytes) (hzs : z.cells.size = 1)
    (v : Value) (n : Nat) (xs : List Value) (hs : a.eval s = v) (hown : w.ownsRow base e 1 v n xs)
    (ad : Addr) (m c : Nat) (hm : 0 < m) (news : List Value) (hx : a.eval x = .slice (some ad) m c) (hl : news.length = m * 1) (hnews : ∀ j u, news[j]? = some u → w.cell? (ad.add j) = some u) (h1 : ∀ u ∈ news, u.oneCell' = true)
    (h63 : n + m ≤ maxLen) (hbytes : (n + m) * bytes ≤ 140737488355328) (hbase : base ≤ w.heap.size)
    (h : ∀ g cap w', w'.ownsRow base e 1 (.slice (some ⟨g, 0, none⟩) (n + m) cap) (n + m) (xs ++ news) → w.grownBy w' v.ownBlock →
      (∀ e' u k ys, w.ownsRow base e' 1 u k ys → (u.ownBlock = v.ownBlock → k ≤ n) → w'.ownsRow base e' 1 u k ys) → wpList P ops Q rest (a.put o.dst (.slice (some ⟨g, 0, none⟩) (n + m) cap)) w') : wpList P ops Q (o :: rest) a w := by
  have grow : ∀ (ao : Option Addr) (cap : Nat), v = .slice ao n cap → (ao = none → n = 0 ∧ cap = 0) → (∀ b, ao = some b → ∀ j u, xs[j]? = some u → w.cell? (b.add j) = some u) → cap < n + m → wpList P ops Q (o :: rest) a w := by
    intro ao cap hv hnone holds hfull
    refine wpList_append_grows w hgd s x t ho e i z 1 bytes ht hi hz hsize hby hzs (by decide) ao n cap xs (hs.trans hv) hnone hown.1 holds ad m c news hx hl hnews h1 hfull h63 hbytes ?_
    intro v' w' hown' hg'
    rcases own_shape hown' with rfl | ⟨g, cv, rfl⟩
    · exfalso
      rcases hown'.2 with ⟨_, h0⟩ | ⟨_, _, _, h0, _⟩
      · omega
      · simp at h0
    · refine h g cv w' (ownsRow_base hown' hbase) (grownBy_any hg' _) ?_
      intro e' u k ys hu _
      refine ⟨hu.1, ?_⟩
      rcases hu.2 with h2 | ⟨gu, cu, curu, hv2, hb2, hh2, r⟩
      · exact .inl h2
      · exact .inr ⟨gu, cu, curu, hv2, hb2, (hg'.block gu (lt_of_block hh2) (by simp)).trans hh2, r⟩
  rcases hown.2 with ⟨hv, hn0⟩ | ⟨g, cap, cur, hv, hb, hh, hle, hmx, hsz, htk⟩
  · exact grow none 0 (by rw [hv, hn0]) (fun _ => ⟨hn0, rfl⟩) (by simp) (by omega)
  · by_cases hfit : n + m ≤ cap
    · have hown2 := hown
      rw [hv] at hown2
      refine wpList_append_fits w hgd s x t ho base e i 1 ht hi hsize g n cap xs (hs.trans hv) hown2 ad m c news hx hl hnews h1 hfit ?_
      intro w' hown' hg'
      refine h g cap w' hown' (by rw [hv]; exact hg') ?_
      intro e' u k ys hu hk
      refine ⟨hu.1, ?_⟩
      rcases hu.2 with h2 | ⟨gu, cu, curu, hv2, hb2, hh2, hleu, hmu, hsu, htu⟩
      · exact .inl h2
      · by_cases hgg : gu = g
        · subst hgg
          have hkn : k ≤ n := hk (by rw [hv2, hv]; rfl)
          rw [hh] at hh2
          simp only [Option.some.injEq, Obj.cells.injEq] at hh2
          obtain ⟨rfl, rfl, _⟩ := hh2
          rcases hown'.2 with ⟨h0, _⟩ | ⟨g', cap', cur', hv', hb', hh', hle', hmx', hsz', htk'⟩
          · simp at h0
          · simp only [Value.slice.injEq, Option.some.injEq, Addr.mk.injEq] at hv'
            obtain ⟨⟨rfl, _, _⟩, _, rfl⟩ := hv'
            refine .inr ⟨gu, cu, cur', hv2, hb2, hh', hleu, hmu, ?_, ?_⟩
            · omega
            · rw [← htu, ← show ((cur'.toList.take ((n + m) * 1)).take (k * 1)) = cur'.toList.take (k * 1) from by rw [List.take_take]; congr 1; omega, htk', ← htk, List.take_append_of_le_length (by rw [List.length_take]; simp; omega), List.take_take]
              congr 1
              omega
        · exact .inr ⟨gu, cu, curu, hv2, hb2, (hg'.block gu (lt_of_block hh2) (by simpa using hgg)).trans hh2, hleu, hmu, hsu, htu⟩
    · refine grow (some ⟨g, 0, none⟩) cap hv (by simp) ?_ (by omega)
      intro b hb' j u hj
      simp only [Option.some.injEq] at hb'
      subst hb'
      exact hown.cells (g := g) (by rw [hv]; rfl) j u hj

end Go.Proofs.YtajphdppmdoalaaGreat
