import Derived.Test.YtajphdppmdoalaaGreatZPOAtoOB
import Derived.BigRegion
namespace Go.Proofs.YtajphdppmdoalaaGreat
open Go.RowKit
set_option linter.unusedVariables false

/-- Values laid one behind the other. -/
def putL (xs : List Value) : Nat → List Value → List Value
  | _, [] => xs
  | a, v :: vs => putL (xs.set a v) (a + 1) vs
def putW (w : World) (g : Nat) : Nat → List Value → World
  | _, [] => w
  | a, v :: vs => putW (w.setCell ⟨g, a, none⟩ v) g (a + 1) vs
theorem putL_eq (xs : List Value) (a : Nat) (vs : List Value) (h : a + vs.length ≤ xs.length) : putL xs a vs = xs.take a ++ vs ++ xs.drop (a + vs.length) := by
  induction vs generalizing xs a with
  | nil => simp [putL]
  | cons v vs ih =>
    rw [List.length_cons] at h
    rw [putL, ih (xs.set a v) (a + 1) (by rw [List.length_set]; omega)]
    have h1 : (xs.set a v).take (a + 1) = xs.take a ++ [v] := by
      rw [List.take_add_one, List.take_set_of_le (Nat.le_refl _), List.getElem?_set_self (by omega)]
      rfl
    have h2 : (xs.set a v).drop (a + 1 + vs.length) = xs.drop (a + (v :: vs).length) := by
      rw [List.drop_set_of_lt (by omega), List.length_cons, show a + 1 + vs.length = a + (vs.length + 1) from by omega]
    rw [h1, h2]
    simp
theorem putW_own {w : World} {base g n cap s : Nat} {e : TypeId} {xs : List Value} (h : w.ownsRow base e s (.slice (some ⟨g, 0, none⟩) n cap) n xs) (a : Nat) (vs : List Value) : (putW w g a vs).ownsRow base e s (.slice (some ⟨g, 0, none⟩) n cap) n (putL xs a vs) := by
  induction vs generalizing w a xs with
  | nil => exact h
  | cons v vs ih => exact ih (h.stored a v).1 (a + 1)
theorem putW_only (w : World) (g a : Nat) (vs : List Value) : Only (fun q => q = g) w (putW w g a vs) := by
  induction vs generalizing w a with
  | nil => exact Only.refl _ _
  | cons v vs ih => exact ((Only.refl (fun q => q = g) w).setG).trans (ih (w.setCell ⟨g, a, none⟩ v) (a + 1)) (fun _ _ h => h)
/-- Those on their way, i places having been moved down behind k. -/
def shL {α : Type} (l : List α) (k i : Nat) : List α := l.take k ++ (l.drop (k + 1)).take (i - k) ++ l.drop i
theorem shL_start {α : Type} (l : List α) (k : Nat) : shL l k k = l := by simp [shL]
theorem shL_len {α : Type} (l : List α) (k i : Nat) (h1 : k ≤ i) (h2 : i + 1 ≤ l.length) : (shL l k i).length = l.length := by
  simp only [shL, List.length_append, List.length_take, List.length_drop]
  omega
theorem shL_step {α : Type} (l : List α) (k i : Nat) (x : α) (h1 : k ≤ i) (hx : l[i + 1]? = some x) : (shL l k i)[i + 1]? = some x ∧ (shL l k i).set i x = shL l k (i + 1) := by
  have hlen : i + 1 < l.length := (List.getElem?_eq_some_iff.1 hx).1
  have hA : (l.take k ++ (l.drop (k + 1)).take (i - k)).length = i := by
    simp only [List.length_append, List.length_take, List.length_drop]
    omega
  have hd : l.drop i = l[i] :: l.drop (i + 1) := (List.getElem_cons_drop (by omega)).symm
  constructor
  · unfold shL
    rw [List.getElem?_append_right (by omega), hA, List.getElem?_drop, show i + (i + 1 - i) = i + 1 from by omega]
    exact hx
  · unfold shL
    rw [List.set_append_right _ _ (by omega), hA, Nat.sub_self, hd, List.set_cons_zero]
    have ht : (l.drop (k + 1)).take (i + 1 - k) = (l.drop (k + 1)).take (i - k) ++ [x] := by
      rw [show i + 1 - k = (i - k) + 1 from by omega, List.take_add_one, List.getElem?_drop, show k + 1 + (i - k) = i + 1 from by omega, hx]
      rfl
    rw [ht]
    simp
theorem shL_end {α : Type} (l : List α) (k : Nat) (h : k < l.length) : (shL l k (l.length - 1)).take (l.length - 1) = l.take k ++ l.drop (k + 1) := by
  have hA : (l.take k ++ (l.drop (k + 1)).take (l.length - 1 - k)).length = l.length - 1 := by
    simp only [List.length_append, List.length_take, List.length_drop]
    omega
  unfold shL
  have h2 : (l.drop (k + 1)).take (l.length - 1 - k) = l.drop (k + 1) := List.take_of_length_le (by rw [List.length_drop]; omega)
  rw [List.take_append_of_le_length (by omega), List.take_of_length_le (by omega), h2]

set_option maxRecDepth 100000 in
set_option maxHeartbeats 3200000 in
theorem land_no (xb : Nat) (k : Int) (S : Cl) (F : Nat → Prop) (w : World) (h : PrIs w xb S F) (hk : k < 0 ∨ (S.sent.length : Int) ≤ k) :
    Calls Tryz.prog 80 #[.pointer (some ⟨xb, 0, none⟩), .int .i64 k] w fun e w' => e = .returned (.tuple #[.agg #[.int .i64 0, .int .i64 0, .int .i64 0, .int .u16 0, .int .u16 0, .int .u8 0, .int .u16 0, .int .u8 0, .bool false, .int .u16 0, .int .u16 0, .slice none 0 0, .int .i64 0], .int .i64 1]) ∧ Below w.heap.size w w' := by
  obtain ⟨gS, cs, vT, vV, vN, RR, Fs, h, hr, he⟩ := h
  have hyb := h.lt
  obtain ⟨ao, cap, hvN⟩ := own_slice h.rN
  subst hvN
  have dN : w.cell? ⟨xb, 5, none⟩ = some (.slice ao S.sent.length cap) := arr_cell h.blk 5
  clear h hr he
  by_cases h0 : k < 0
  · clear hk
    go_enter Tryz.func80, Tryz.ntmps80
    go_wp2
    refine bodyPost_ret (v := .tuple #[.agg #[.int .i64 0, .int .i64 0, .int .i64 0, .int .u16 0, .int .u16 0, .int .u8 0, .int .u16 0, .int .u8 0, .bool false, .int .u16 0, .int .u16 0, .slice none 0 0, .int .i64 0], .int .i64 1]) ?_ rfl ⟨rfl, ?_⟩
    all_goals go_light
    · simp [results, Tryz.results80, go_sem]
    · repeat' first | with_reducible exact Below.refl _ _ | with_reducible refine Below.setCell ?_ ?_ _ | with_reducible refine Below.alloc ?_ ?_ _
      all_goals (simp; try omega)
  · have h1 : k ≥ (S.sent.length : Int) := by omega
    clear hk
    go_enter Tryz.func80, Tryz.ntmps80
    go_wp2
    refine bodyPost_ret (v := .tuple #[.agg #[.int .i64 0, .int .i64 0, .int .i64 0, .int .u16 0, .int .u16 0, .int .u8 0, .int .u16 0, .int .u8 0, .bool false, .int .u16 0, .int .u16 0, .slice none 0 0, .int .i64 0], .int .i64 1]) ?_ rfl ⟨rfl, ?_⟩
    all_goals go_light
    · simp [results, Tryz.results80, go_sem]
    · repeat' first | with_reducible exact Below.refl _ _ | with_reducible refine Below.setCell ?_ ?_ _ | with_reducible refine Below.alloc ?_ ?_ _
      all_goals (simp; try omega)

theorem put13 (w : World) (g a : Nat) (v0 v1 v2 v3 v4 v5 v6 v7 v8 v9 v10 v11 v12 : Value) : ((((((((((((w.setCell ⟨g, a, none⟩ v0).setCell ⟨g, a + 1, none⟩ v1).setCell ⟨g, a + 2, none⟩ v2).setCell ⟨g, a + 3, none⟩ v3).setCell ⟨g, a + 4, none⟩ v4).setCell ⟨g, a + 5, none⟩ v5).setCell ⟨g, a + 6, none⟩ v6).setCell ⟨g, a + 7, none⟩ v7).setCell ⟨g, a + 8, none⟩ v8).setCell ⟨g, a + 9, none⟩ v9).setCell ⟨g, a + 10, none⟩ v10).setCell ⟨g, a + 11, none⟩ v11).setCell ⟨g, a + 12, none⟩ v12 = putW w g a [v0, v1, v2, v3, v4, v5, v6, v7, v8, v9, v10, v11, v12] := rfl
theorem put13z (w : World) (g : Nat) (v0 v1 v2 v3 v4 v5 v6 v7 v8 v9 v10 v11 v12 : Value) : ((((((((((((w.setCell ⟨g, 0, none⟩ v0).setCell ⟨g, 1, none⟩ v1).setCell ⟨g, 2, none⟩ v2).setCell ⟨g, 3, none⟩ v3).setCell ⟨g, 4, none⟩ v4).setCell ⟨g, 5, none⟩ v5).setCell ⟨g, 6, none⟩ v6).setCell ⟨g, 7, none⟩ v7).setCell ⟨g, 8, none⟩ v8).setCell ⟨g, 9, none⟩ v9).setCell ⟨g, 10, none⟩ v10).setCell ⟨g, 11, none⟩ v11).setCell ⟨g, 12, none⟩ v12 = putW w g 0 [v0, v1, v2, v3, v4, v5, v6, v7, v8, v9, v10, v11, v12] := rfl
theorem putW_blk {w : World} {g : Nat} {cs : Array Value} {t : TypeId} (h : w.heap[g]? = some (.cells cs t (0, 0))) (a : Nat) (vs : List Value) : ∃ cs', (putW w g a vs).heap[g]? = some (.cells cs' t (0, 0)) ∧ cs'.toList = putL cs.toList a vs := by
  induction vs generalizing w a cs with
  | nil => exact ⟨cs, h, rfl⟩
  | cons v vs ih =>
    obtain ⟨cs', h1, h2⟩ := ih (row_setCell (j := a) h v) (a + 1)
    exact ⟨cs', h1, by rw [h2, Array.toList_setIfInBounds]; rfl⟩
theorem own_short {w : World} {base g n m cap s : Nat} {e : TypeId} {xs : List Value} (h : w.ownsRow base e s (.slice (some ⟨g, 0, none⟩) n cap) n xs) (hm : m ≤ n) : w.ownsRow base e s (.slice (some ⟨g, 0, none⟩) m cap) m (xs.take (m * s)) := by
  have hms : m * s ≤ n * s := Nat.mul_le_mul_right s hm
  refine ⟨by rw [List.length_take, h.1]; omega, ?_⟩
  rcases h.2 with ⟨h1, _⟩ | ⟨g', cap', cur, hv, hb, hh, hle, hmx, hsz, htk⟩
  · simp at h1
  · simp only [Value.slice.injEq, Option.some.injEq, Addr.mk.injEq] at hv
    obtain ⟨⟨rfl, _, _⟩, _, rfl⟩ := hv
    refine .inr ⟨g, cap, cur, rfl, hb, hh, Nat.le_trans hm hle, hmx, hsz, ?_⟩
    rw [← htk, List.take_take]
    congr 1
    omega
theorem flat_take {α : Type} (f : α → List Value) (s : Nat) (hs : ∀ a, (f a).length = s) (l : List α) (m : Nat) (hm : m ≤ l.length) : (l.flatMap f).take (m * s) = (l.take m).flatMap f := by
  have h1 : l.flatMap f = (l.take m).flatMap f ++ (l.drop m).flatMap f := by rw [← List.flatMap_append, List.take_append_drop]
  rw [h1, List.take_append_of_le_length (by rw [flat_length f s hs, List.length_take]; have : min m l.length = m := (by omega); rw [this]; exact Nat.le_refl _), List.take_of_length_le (by rw [flat_length f s hs, List.length_take]; exact Nat.mul_le_mul_right s (by omega))]

set_option maxRecDepth 100000 in
set_option maxHeartbeats 6400000 in
theorem land_core (xb g m cap k : Nat) (l : List Snt) (s : Snt) (cur : Array Value) (w : World) (hcur : w.heap[xb]? = some (.cells cur 69 (0, 0))) (c5 : w.cell? ⟨xb, 5, none⟩ = some (.slice (some ⟨g, 0, none⟩) (m + 1) cap)) (hrow : w.ownsRow 0 114 13 (.slice (some ⟨g, 0, none⟩) (m + 1) cap) (m + 1) (l.flatMap Snt.pcells)) (hl : l.length = m + 1) (hk : l[k]? = some s) (hn : m ≤ 2000000000000) (hcap : m + 1 ≤ cap) (hcm : cap ≤ maxLen) :
    Calls Tryz.prog 80 #[.pointer (some ⟨xb, 0, none⟩), .int .i64 k] w fun e w' => e = .returned (.tuple #[.agg #[.int .i64 s.seq, .int .i64 s.frm, .int .i64 s.to, .int .u16 s.p.src, .int .u16 s.p.dst, .int .u8 s.p.proto, .int .u16 s.p.id, .int .u8 s.p.off, .bool s.p.more, .int .u16 s.p.sport, .int .u16 s.p.dport, .slice none 0 0, .int .i64 s.p.dlen], .int .i64 0]) ∧ w'.heap[xb]? = some (.cells (cur.setIfInBounds 5 (.slice (some ⟨g, 0, none⟩) m cap)) 69 (0, 0)) ∧ w'.ownsRow 0 114 13 (.slice (some ⟨g, 0, none⟩) m cap) m ((l.take k ++ l.drop (k + 1)).flatMap Snt.pcells) ∧ Only (fun q => q = g ∨ q = xb) w w' := by
  have hN := hrow
  have hxb : xb < w.heap.size := lt_of_block hcur
  have hkn : k < m + 1 := by rw [← hl]; exact (List.getElem?_eq_some_iff.1 hk).1
  have hgz : g < w.heap.size := (hN.lt g rfl).2
  have hgx : g ≠ xb := fun hh => own_apart_blk hrow hcur (by decide) (by rw [hh]; rfl)
  have HCU := hide hcur
  have q0 : w.cell? ⟨g, k * 13, none⟩ = _ := row_get Snt.pcells Snt.plen hN k s hk 0 _ rfl
  have q1 := row_get Snt.pcells Snt.plen hN k s hk 1 _ rfl
  have q2 := row_get Snt.pcells Snt.plen hN k s hk 2 _ rfl
  have q3 := row_get Snt.pcells Snt.plen hN k s hk 3 _ rfl
  have q4 := row_get Snt.pcells Snt.plen hN k s hk 4 _ rfl
  have q5 := row_get Snt.pcells Snt.plen hN k s hk 5 _ rfl
  have q6 := row_get Snt.pcells Snt.plen hN k s hk 6 _ rfl
  have q7 := row_get Snt.pcells Snt.plen hN k s hk 7 _ rfl
  have q8 := row_get Snt.pcells Snt.plen hN k s hk 8 _ rfl
  have q9 := row_get Snt.pcells Snt.plen hN k s hk 9 _ rfl
  have q10 := row_get Snt.pcells Snt.plen hN k s hk 10 _ rfl
  have q11 := row_get Snt.pcells Snt.plen hN k s hk 11 _ rfl
  have q12 := row_get Snt.pcells Snt.plen hN k s hk 12 _ rfl
  have hki : (k : Int) < (m : Int) + 1 := by omega
  have hci : (m : Int) ≤ (cap : Int) := by omega
  have HN := hide hN
  have HL := hide hl
  clear hN hrow hcur hk
  go_enter Tryz.func80, Tryz.ntmps80
  go_wp2_with fail
  clear q0 q1 q2 q3 q4 q5 q6 q7 q8 q9 q10 q11 q12
  have HX0 : Hid (((w.alloc (.cells #[.int .i64 0, .int .i64 0, .int .i64 0, .int .u16 0, .int .u16 0, .int .u8 0, .int .u16 0, .int .u8 0, .bool false, .int .u16 0, .int .u16 0, .slice none 0 0, .int .i64 0] 114)).alloc (.cells #[.int .i64 s.seq, .int .i64 s.frm, .int .i64 s.to, .int .u16 s.p.src, .int .u16 s.p.dst, .int .u8 s.p.proto, .int .u16 s.p.id, .int .u8 s.p.off, .bool s.p.more, .int .u16 s.p.sport, .int .u16 s.p.dport, .slice none 0 0, .int .i64 s.p.dlen] 114)).heap[w.heap.size]? = some (.cells #[.int .i64 0, .int .i64 0, .int .i64 0, .int .u16 0, .int .u16 0, .int .u8 0, .int .u16 0, .int .u8 0, .bool false, .int .u16 0, .int .u16 0, .slice none 0 0, .int .i64 0] 114 (0, 0))) := (Below.heap_alloc _ _ _ (by simp)).trans (heap_alloc_new _ _)
  have HX1 : Hid (((w.alloc (.cells #[.int .i64 0, .int .i64 0, .int .i64 0, .int .u16 0, .int .u16 0, .int .u8 0, .int .u16 0, .int .u8 0, .bool false, .int .u16 0, .int .u16 0, .slice none 0 0, .int .i64 0] 114)).alloc (.cells #[.int .i64 s.seq, .int .i64 s.frm, .int .i64 s.to, .int .u16 s.p.src, .int .u16 s.p.dst, .int .u8 s.p.proto, .int .u16 s.p.id, .int .u8 s.p.off, .bool s.p.more, .int .u16 s.p.sport, .int .u16 s.p.dport, .slice none 0 0, .int .i64 s.p.dlen] 114)).heap[w.heap.size + 1]? = some (.cells #[.int .i64 s.seq, .int .i64 s.frm, .int .i64 s.to, .int .u16 s.p.src, .int .u16 s.p.dst, .int .u8 s.p.proto, .int .u16 s.p.id, .int .u8 s.p.off, .bool s.p.more, .int .u16 s.p.sport, .int .u16 s.p.dport, .slice none 0 0, .int .i64 s.p.dlen] 114 (0, 0))) := by have := heap_alloc_new (w.alloc (.cells #[.int .i64 0, .int .i64 0, .int .i64 0, .int .u16 0, .int .u16 0, .int .u8 0, .int .u16 0, .int .u8 0, .bool false, .int .u16 0, .int .u16 0, .slice none 0 0, .int .i64 0] 114)) (.cells #[.int .i64 s.seq, .int .i64 s.frm, .int .i64 s.to, .int .u16 s.p.src, .int .u16 s.p.dst, .int .u8 s.p.proto, .int .u16 s.p.id, .int .u8 s.p.off, .bool s.p.more, .int .u16 s.p.sport, .int .u16 s.p.dport, .slice none 0 0, .int .i64 s.p.dlen] 114); rwa [World.size_alloc] at this
  have HB1 : Hid (Below w.heap.size w ((w.alloc (.cells #[.int .i64 0, .int .i64 0, .int .i64 0, .int .u16 0, .int .u16 0, .int .u8 0, .int .u16 0, .int .u8 0, .bool false, .int .u16 0, .int .u16 0, .slice none 0 0, .int .i64 0] 114)).alloc (.cells #[.int .i64 s.seq, .int .i64 s.frm, .int .i64 s.to, .int .u16 s.p.src, .int .u16 s.p.dst, .int .u8 s.p.proto, .int .u16 s.p.id, .int .u8 s.p.off, .bool s.p.more, .int .u16 s.p.sport, .int .u16 s.p.dport, .slice none 0 0, .int .i64 s.p.dlen] 114))) := ((Below.refl _ _).alloc (Nat.le_refl _) _).alloc (by simp) _
  have hz1 : ((w.alloc (.cells #[.int .i64 0, .int .i64 0, .int .i64 0, .int .u16 0, .int .u16 0, .int .u8 0, .int .u16 0, .int .u8 0, .bool false, .int .u16 0, .int .u16 0, .slice none 0 0, .int .i64 0] 114)).alloc (.cells #[.int .i64 s.seq, .int .i64 s.frm, .int .i64 s.to, .int .u16 s.p.src, .int .u16 s.p.dst, .int .u8 s.p.proto, .int .u16 s.p.id, .int .u8 s.p.off, .bool s.p.more, .int .u16 s.p.sport, .int .u16 s.p.dport, .slice none 0 0, .int .i64 s.p.dlen] 114)).heap.size = w.heap.size + 2 := by simp
  generalize (w.alloc (.cells #[.int .i64 0, .int .i64 0, .int .i64 0, .int .u16 0, .int .u16 0, .int .u8 0, .int .u16 0, .int .u8 0, .bool false, .int .u16 0, .int .u16 0, .slice none 0 0, .int .i64 0] 114)).alloc (.cells #[.int .i64 s.seq, .int .i64 s.frm, .int .i64 s.to, .int .u16 s.p.src, .int .u16 s.p.dst, .int .u8 s.p.proto, .int .u16 s.p.id, .int .u8 s.p.off, .bool s.p.more, .int .u16 s.p.sport, .int .u16 s.p.dport, .slice none 0 0, .int .i64 s.p.dlen] 114) = w1 at *
  have HN1 := hide (own_below' HN.out (fun q hq => (HN.out.lt q hq).2) HB1.out)
  go_loopw [8] (fun v wr => ∃ i : Nat, k ≤ i ∧ i ≤ m ∧ v = .int .i64 i ∧ Hid (wr.ownsRow 0 114 13 (.slice (some ⟨g, 0, none⟩) (m + 1) cap) (m + 1) ((shL l k i).flatMap Snt.pcells)) ∧ Hid (Only (fun q => q = g) w1 wr)) (fun v _ => m - (intOf v).toNat)
  case atStart => exact ⟨k, Nat.le_refl _, by omega, rfl, by show World.ownsRow _ _ _ _ _ _ _; rw [shL_start]; exact HN1.out, Only.refl _ _⟩
  case round =>
    obtain ⟨i, hki', him, rfl, HO, HON⟩ := hrel
    have hzr : w.heap.size + 2 ≤ wr.heap.size := by have := HON.out.size; omega
    have e5 := (HON.out.cell (p := ⟨xb, 5, none⟩) (by simp; omega) (fun hh => hgx hh.symm)).trans ((HB1.out.cell (p := ⟨xb, 5, none⟩) hxb).trans c5)
    have hxr : xb < wr.heap.size := by omega
    have hgr : g < wr.heap.size := by omega
    by_cases hlt : i < m
    · obtain ⟨x, hx⟩ : ∃ x, l[i + 1]? = some x := ⟨_, List.getElem?_eq_getElem (by rw [HL.out]; omega)⟩
      obtain ⟨hx1, hx2⟩ := shL_step l k i x hki' hx
      obtain ⟨y, hy1⟩ : ∃ y, (shL l k i)[i]? = some y := ⟨_, List.getElem?_eq_getElem (by rw [shL_len l k i hki' (by rw [HL.out]; omega), HL.out]; omega)⟩
      have r0 : wr.cell? ⟨g, (i + 1) * 13, none⟩ = _ := row_get Snt.pcells Snt.plen HO.out (i + 1) x hx1 0 _ rfl
      have r1 := row_get Snt.pcells Snt.plen HO.out (i + 1) x hx1 1 _ rfl
      have r2 := row_get Snt.pcells Snt.plen HO.out (i + 1) x hx1 2 _ rfl
      have r3 := row_get Snt.pcells Snt.plen HO.out (i + 1) x hx1 3 _ rfl
      have r4 := row_get Snt.pcells Snt.plen HO.out (i + 1) x hx1 4 _ rfl
      have r5 := row_get Snt.pcells Snt.plen HO.out (i + 1) x hx1 5 _ rfl
      have r6 := row_get Snt.pcells Snt.plen HO.out (i + 1) x hx1 6 _ rfl
      have r7 := row_get Snt.pcells Snt.plen HO.out (i + 1) x hx1 7 _ rfl
      have r8 := row_get Snt.pcells Snt.plen HO.out (i + 1) x hx1 8 _ rfl
      have r9 := row_get Snt.pcells Snt.plen HO.out (i + 1) x hx1 9 _ rfl
      have r10 := row_get Snt.pcells Snt.plen HO.out (i + 1) x hx1 10 _ rfl
      have r11 := row_get Snt.pcells Snt.plen HO.out (i + 1) x hx1 11 _ rfl
      have r12 := row_get Snt.pcells Snt.plen HO.out (i + 1) x hx1 12 _ rfl
      have z0 : wr.cell? ⟨g, i * 13, none⟩ = _ := row_get Snt.pcells Snt.plen HO.out i y hy1 0 _ rfl
      have z1 := row_get Snt.pcells Snt.plen HO.out i y hy1 1 _ rfl
      have z2 := row_get Snt.pcells Snt.plen HO.out i y hy1 2 _ rfl
      have z3 := row_get Snt.pcells Snt.plen HO.out i y hy1 3 _ rfl
      have z4 := row_get Snt.pcells Snt.plen HO.out i y hy1 4 _ rfl
      have z5 := row_get Snt.pcells Snt.plen HO.out i y hy1 5 _ rfl
      have z6 := row_get Snt.pcells Snt.plen HO.out i y hy1 6 _ rfl
      have z7 := row_get Snt.pcells Snt.plen HO.out i y hy1 7 _ rfl
      have z8 := row_get Snt.pcells Snt.plen HO.out i y hy1 8 _ rfl
      have z9 := row_get Snt.pcells Snt.plen HO.out i y hy1 9 _ rfl
      have z10 := row_get Snt.pcells Snt.plen HO.out i y hy1 10 _ rfl
      have z11 := row_get Snt.pcells Snt.plen HO.out i y hy1 11 _ rfl
      have z12 := row_get Snt.pcells Snt.plen HO.out i y hy1 12 _ rfl
      have fz : ∀ j, wr.frozen? ⟨g, j, none⟩ = false := by obtain ⟨cu, hcu⟩ := own_tag' HO.out rfl; exact fun j => arr_frozen hcu j
      have HX2 := hide (And.intro hx2 hy1)
      have hi1 : (i : Int) + 1 < (m : Int) + 1 := by omega
      have hi0 : (i : Int) < (m : Int) + 1 := by omega
      clear hx hx1 hx2 hy1
      go_wp2_with fail
      go_region
      rw [put13 wr g (i * 13)]
      have hO2 := putW_own HO.out (i * 13) x.pcells
      have hON2 := putW_only wr g (i * 13) x.pcells
      have hcells : putL ((shL l k i).flatMap Snt.pcells) (i * 13) x.pcells = (shL l k (i + 1)).flatMap Snt.pcells := by
        rw [← HX2.out.1, putL_eq _ _ _ (by rw [flat_length Snt.pcells 13 Snt.plen, shL_len l k i hki' (by rw [HL.out]; omega), HL.out, Snt.plen]; omega), flat_set_cells Snt.pcells 13 Snt.plen (shL l k i) i y x HX2.out.2, Snt.plen]
      rw [hcells] at hO2
      change (putW wr g (i * 13) x.pcells).ownsRow _ _ _ _ _ _ at hO2
      have HO2 := hide hO2
      have HON2 := hide hON2
      clear hO2 hON2 hcells
      rw [show (putW wr g (i * 13) [.int .i64 x.seq, .int .i64 x.frm, .int .i64 x.to, .int .u16 x.p.src, .int .u16 x.p.dst, .int .u8 x.p.proto, .int .u16 x.p.id, .int .u8 x.p.off, .bool x.p.more, .int .u16 x.p.sport, .int .u16 x.p.dport, .slice none 0 0, .int .i64 x.p.dlen]) = putW wr g (i * 13) x.pcells from rfl]
      generalize putW wr g (i * 13) x.pcells = wz at *
      go_wp2
      go_roundw
      case rel => exact ⟨i + 1, by omega, by omega, by go_num, HO2.out, (HON.out.trans HON2.out (fun _ _ hh => hh)).drewN 1⟩
      case measure => simp [intOf]; omega
    · obtain rfl : i = m := by omega
      have hb2 : wr.heap[xb]? = some (.cells cur 69 (0, 0)) := (HON.out.block xb (by omega) (fun hh => hgx hh.symm)).trans ((HB1.out.block xb hxb).trans HCU.out)
      have fx := arr_frozen hb2 5
      have hX0 := (HON.out.block w.heap.size (by omega) (fun hh => by omega)).trans HX0.out
      have hX1 := (HON.out.block (w.heap.size + 1) (by omega) (fun hh => by omega)).trans HX1.out
      have x0 := arr_cell hX0
      have f0 := arr_frozen hX0
      have x1 := arr_cell hX1
      have hs0 : w.heap.size < wr.heap.size := by omega
      have hs1 : w.heap.size + 1 < wr.heap.size := by omega
      have HB2 := hide hb2
      have HZ0 := hide hX0
      clear hb2 hX0 hX1
      go_wp2
      rw [put13z (wr.setCell ⟨xb, 5, none⟩ (.slice (some ⟨g, 0, none⟩) i cap)) w.heap.size]
      have hbz : (wr.setCell ⟨xb, 5, none⟩ (.slice (some ⟨g, 0, none⟩) i cap)).heap[w.heap.size]? = some (.cells #[.int .i64 0, .int .i64 0, .int .i64 0, .int .u16 0, .int .u16 0, .int .u8 0, .int .u16 0, .int .u8 0, .bool false, .int .u16 0, .int .u16 0, .slice none 0 0, .int .i64 0] 114 (0, 0)) := (Below.heap_setCell _ _ _ _ (fun hh => by simp only at hh; omega)).trans HZ0.out
      obtain ⟨cs', hc1, hc2⟩ := putW_blk hbz 0 s.pcells
      have hc3 : cs' = #[.int .i64 s.seq, .int .i64 s.frm, .int .i64 s.to, .int .u16 s.p.src, .int .u16 s.p.dst, .int .u8 s.p.proto, .int .u16 s.p.id, .int .u8 s.p.off, .bool s.p.more, .int .u16 s.p.sport, .int .u16 s.p.dport, .slice none 0 0, .int .i64 s.p.dlen] := by
        apply Array.toList_inj.1
        rw [hc2]
        rfl
      subst hc3
      have hON3 := putW_only (wr.setCell ⟨xb, 5, none⟩ (.slice (some ⟨g, 0, none⟩) i cap)) w.heap.size 0 s.pcells
      change (putW (wr.setCell ⟨xb, 5, none⟩ (.slice (some ⟨g, 0, none⟩) i cap)) w.heap.size 0 s.pcells).heap[w.heap.size]? = _ at hc1
      rw [show (putW (wr.setCell ⟨xb, 5, none⟩ (.slice (some ⟨g, 0, none⟩) i cap)) w.heap.size 0 [.int .i64 s.seq, .int .i64 s.frm, .int .i64 s.to, .int .u16 s.p.src, .int .u16 s.p.dst, .int .u8 s.p.proto, .int .u16 s.p.id, .int .u8 s.p.off, .bool s.p.more, .int .u16 s.p.sport, .int .u16 s.p.dport, .slice none 0 0, .int .i64 s.p.dlen]) = putW (wr.setCell ⟨xb, 5, none⟩ (.slice (some ⟨g, 0, none⟩) i cap)) w.heap.size 0 s.pcells from rfl]
      generalize putW (wr.setCell ⟨xb, 5, none⟩ (.slice (some ⟨g, 0, none⟩) i cap)) w.heap.size 0 s.pcells = wF at hc1 hON3 ⊢
      have dF := arr_cell hc1
      have hzF : w.heap.size < wF.heap.size := lt_of_block hc1
      have hbx := row_setCell (j := 5) HB2.out (.slice (some ⟨g, 0, none⟩) i cap)
      have hrowX := own_set' (j := 5) (own_short HO.out (show i ≤ i + 1 by omega)) HB2.out (by decide) (.slice (some ⟨g, 0, none⟩) i cap)
      have hlist : ((shL l k i).flatMap Snt.pcells).take (i * 13) = (l.take k ++ l.drop (k + 1)).flatMap Snt.pcells := by
        rw [flat_take Snt.pcells 13 Snt.plen _ _ (by rw [shL_len l k i hki' (by rw [HL.out]; omega), HL.out]; omega)]
        have := shL_end l k (by rw [HL.out]; omega)
        rw [HL.out] at this
        rw [show i + 1 - 1 = i from by omega] at this
        rw [this]
      rw [hlist] at hrowX
      clear x0 f0 x1 e5
      refine bodyPost_ret (v := .tuple #[.agg #[.int .i64 s.seq, .int .i64 s.frm, .int .i64 s.to, .int .u16 s.p.src, .int .u16 s.p.dst, .int .u8 s.p.proto, .int .u16 s.p.id, .int .u8 s.p.off, .bool s.p.more, .int .u16 s.p.sport, .int .u16 s.p.dport, .slice none 0 0, .int .i64 s.p.dlen], .int .i64 0]) ?_ rfl ⟨rfl, ?_, ?_, ?_⟩
      · go_light
        simp [results, Tryz.results80, go_sem, dF]
      · exact (hON3.block xb (by simp; omega) (fun hh => by omega)).trans hbx
      · exact own_only hrowX hON3 (fun q hq hh => by simp only [Value.ownBlock, Option.some.injEq] at hq; omega)
      · exact (((Only.of_below HB1.out).trans HON.out (fun q _ hh => .inl hh)).setCell (p := ⟨xb, 5, none⟩) (fun _ => .inr rfl) _).trans hON3 (fun q hq hh => by omega)

/-- Without the one at place k. -/
theorem land_yes (xb k : Nat) (S : Cl) (F : Nat → Prop) (s : Snt) (w : World) (h : PrIs w xb S F) (hk : S.sent[k]? = some s) (hn : S.sent.length ≤ 2000000000000) :
    Calls Tryz.prog 80 #[.pointer (some ⟨xb, 0, none⟩), .int .i64 k] w fun e w' => e = .returned (.tuple #[.agg #[.int .i64 s.seq, .int .i64 s.frm, .int .i64 s.to, .int .u16 s.p.src, .int .u16 s.p.dst, .int .u8 s.p.proto, .int .u16 s.p.id, .int .u8 s.p.off, .bool s.p.more, .int .u16 s.p.sport, .int .u16 s.p.dport, .slice none 0 0, .int .i64 s.p.dlen], .int .i64 0]) ∧ ∃ F', PrIs w' xb (landM S k) F' ∧ Stp w w' F F' := by
  obtain ⟨gS, cs, vT, vV, vN, RR, Fs, h, hr, he⟩ := h
  have hkl : k < S.sent.length := (List.getElem?_eq_some_iff.1 hk).1
  obtain ⟨m, hm⟩ : ∃ m, S.sent.length = m + 1 := ⟨S.sent.length - 1, by omega⟩
  obtain ⟨g, cap, hvN⟩ := own_some h.rN (by omega)
  have hrow := h.rN
  rw [hvN] at hrow
  rw [hm] at hrow hvN
  have hcaps : m + 1 ≤ cap ∧ cap ≤ maxLen := by
    rcases hrow.2 with ⟨h1, _⟩ | ⟨g', cap', cur, hv, hb, hh, hle, hmx, _⟩
    · simp at h1
    · simp only [Value.slice.injEq, Option.some.injEq, Addr.mk.injEq] at hv
      obtain ⟨_, _, rfl⟩ := hv
      exact ⟨hle, hmx⟩
  have c5 : w.cell? ⟨xb, 5, none⟩ = some (.slice (some ⟨g, 0, none⟩) (m + 1) cap) := by rw [← hvN]; exact arr_cell h.blk 5
  refine (land_core xb g m cap k S.sent s _ w h.blk c5 hrow hm hk (by omega) hcaps.1 hcaps.2).mono ?_
  rintro e w' ⟨rfl, hb', hr', ho'⟩
  have hgN : vN.ownBlock = some g := by rw [hvN]; rfl
  have hT : ∀ q, vT.ownBlock = some q → ¬ (q = g ∨ q = xb) := fun q hq hh => hh.elim (fun hh => own_apart' h.rT h.rN (by decide) hq (by rw [hh]; exact hgN)) (fun hh => own_apart_blk h.rT h.blk (by decide) (by rw [← hh]; exact hq))
  have hV : ∀ q, vV.ownBlock = some q → ¬ (q = g ∨ q = xb) := fun q hq hh => hh.elim (fun hh => own_apart' h.rV h.rN (by decide) hq (by rw [hh]; exact hgN)) (fun hh => own_apart_blk h.rV h.blk (by decide) (by rw [← hh]; exact hq))
  have hlen : (landM S k).sent.length = m := by simp only [landM, List.length_append, List.length_take, List.length_drop]; omega
  obtain ⟨h1, h2⟩ := h.upd ho' (fun q hq => hq.elim (fun hq => .inr (.inr (.inr (by rw [hq]; exact hgN)))) .inl) (landM S k) vT vV (.slice (some ⟨g, 0, none⟩) m cap) (by simpa [landM] using hb') (own_only h.rT ho' hT) (own_only h.rV ho' hV) (by rw [hlen]; exact hr') (fun q hq => .inl hq) (fun q hq => .inl hq) (fun q hq => .inl (by rw [hgN]; exact hq))
  exact ⟨rfl, _, ⟨gS, cs, vT, vV, _, RR, Fs, h1, hr, he⟩, h2⟩

end Go.Proofs.YtajphdppmdoalaaGreat
