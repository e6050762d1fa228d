import Derived.Test.YtajphdppmdoalaaGreatZPNGtoNG
import Derived.Test.YtajphdppmdoalaaGreatZPMDtoND
import Derived.Laws.AppendOwnNone
namespace Go.Proofs.YtajphdppmdoalaaGreat
open Go.RowKit
set_option linter.unusedVariables false

theorem erase_snoc {α : Type} (l : List α) (j k : Nat) (r : α) (h : l[j]? = some r) : (l.take (j + 1)).eraseIdx k = if j = k then (l.take j).eraseIdx k else (l.take j).eraseIdx k ++ [r] := by
  have hj : j < l.length := (List.getElem?_eq_some_iff.1 h).1
  have hl : (l.take j).length = j := by rw [List.length_take]; omega
  rw [take_snoc l j r h]
  by_cases hjk : j = k
  · subst hjk
    rw [if_pos rfl, List.eraseIdx_append_of_length_le (by omega), show [r].eraseIdx (j - (l.take j).length) = [] from by rw [hl, Nat.sub_self]; rfl, List.append_nil, List.eraseIdx_of_length_le (by omega)]
  · rw [if_neg hjk]
    by_cases hlt : k < j
    · rw [List.eraseIdx_append_of_lt_length (by omega)]
    · rw [List.eraseIdx_of_length_le (by rw [List.length_append, hl, List.length_singleton]; omega), List.eraseIdx_of_length_le (by omega)]
theorem erase_len {α : Type} (l : List α) (j k : Nat) (hj : j ≤ l.length) : ((l.take j).eraseIdx k).length ≤ j := by
  have h1 : (l.take j).length = j := by rw [List.length_take]; omega
  have h2 := List.length_eraseIdx (l := l.take j) (i := k)
  rw [h2, h1]
  split <;> omega

set_option maxRecDepth 100000 in
set_option maxHeartbeats 3200000 in
theorem drop_any (gS i k : Nat) (cs : Array Value) (vE : Value) (R : List PE) (now : Int) (F : Nat → Prop) (w : World) (hB : w.heap[gS]? = some (.cells cs 122 (0, 0))) (c0 : cs[i]? = some vE) (h : StIs w vE R now F) (hf : PFew R) (hk : k ≤ 1000) :
    Calls Tryz.prog 109 #[.pointer (some ⟨gS, i, none⟩), .int .i64 k] w fun e w' => e = .returned (.tuple #[]) ∧ ∃ v, w'.heap[gS]? = some (.cells (cs.setIfInBounds i v) 122 (0, 0)) ∧ w'.ownsRow w.heap.size 152 11 v (R.eraseIdx k).length ((R.eraseIdx k).flatMap (PE.cells now)) ∧ Only (fun q => q = gS) w w' := by
  obtain ⟨i0, hi, hq0, hq1, hq2⟩ := info_parts Tryz.infoPe
  have HI := hide (And.intro hi (And.intro hq0 (And.intro hq1 hq2)))
  clear hi hq0 hq1 hq2
  have HH := hide h
  have HBB := hide hB
  have hn : R.length ≤ 1000 := hf.1
  have hg : gS < w.heap.size := lt_of_block hB
  have c0' : w.cell? ⟨gS, i, none⟩ = some vE := (arr_cell hB i).trans c0
  obtain ⟨ao, cap, rfl⟩ := own_slice h.rE
  clear h hf hB c0
  go_enter Tryz.func109, Tryz.ntmps109
  go_wp2_with fail
  go_loopw [12, 4] (fun ii v wr => ∃ j : Nat, j ≤ R.length ∧ ii = .int .i64 j ∧ Hid (wr.ownsRow w.heap.size 152 11 v ((R.take j).eraseIdx k).length (((R.take j).eraseIdx k).flatMap (PE.cells now))) ∧ Hid (Below w.heap.size w wr)) (fun ii _ _ => R.length - (intOf ii).toNat)
  case atStart => exact ⟨0, Nat.zero_le _, rfl, World.ownsRow_nil _ _ _ _, Below.refl _ _⟩
  case round =>
    obtain ⟨j, hj, rfl, HO, HB⟩ := hrel
    have hsz : w.heap.size ≤ wr.heap.size := HB.out.size
    by_cases hlt : j < R.length
    · obtain ⟨r, hr⟩ : ∃ r, R[j]? = some r := ⟨_, List.getElem?_eq_getElem hlt⟩
      have HT := hide (erase_snoc R j k r hr)
      have hle := erase_len R j k hj
      obtain ⟨g, q, hgq⟩ := own_some HH.out.rE (by omega)
      rw [Value.slice.injEq] at hgq
      obtain ⟨rfl, _, rfl⟩ := hgq
      have hN := (HH.out.below HB.out).rE
      have hgz : g < wr.heap.size := (hN.lt g rfl).2
      have r0 : wr.cell? ⟨g, j * 11, none⟩ = _ := row_get (PE.cells now) (PE.len now) hN j r hr 0 _ rfl
      have r1 := row_get (PE.cells now) (PE.len now) hN j r hr 1 _ rfl
      have r2 := row_get (PE.cells now) (PE.len now) hN j r hr 2 _ rfl
      have r3 := row_get (PE.cells now) (PE.len now) hN j r hr 3 _ rfl
      have r4 := row_get (PE.cells now) (PE.len now) hN j r hr 4 _ rfl
      have r5 := row_get (PE.cells now) (PE.len now) hN j r hr 5 _ rfl
      have r6 := row_get (PE.cells now) (PE.len now) hN j r hr 6 _ rfl
      have r7 := row_get (PE.cells now) (PE.len now) hN j r hr 7 _ rfl
      have r8 := row_get (PE.cells now) (PE.len now) hN j r hr 8 _ rfl
      have r9 := row_get (PE.cells now) (PE.len now) hN j r hr 9 _ rfl
      have r10 := row_get (PE.cells now) (PE.len now) hN j r hr 10 _ rfl
      obtain ⟨sa, sc, hsv⟩ := own_slice (HH.out.rs r (List.mem_of_getElem? hr))
      obtain ⟨ha, hc, hhv⟩ := own_slice (HH.out.rh r (List.mem_of_getElem? hr))
      rw [hsv] at r5
      rw [hhv] at r10
      have hcl : (PE.cells now r) = [.int .u16 r.e.src, .int .u16 r.e.dst, .int .u8 r.e.proto, .int .u16 r.e.id, .int .i64 (now - r.e.born), r.sv, .bool (endO r.e.pcs).isSome, .int .i64 ((endO r.e.pcs).getD 0), .bool r.e.known, .int .u8 r.e.to, r.hv] := rfl
      rw [hsv, hhv] at hcl
      generalize (endO r.e.pcs).isSome = E1 at *
      generalize (endO r.e.pcs).getD 0 = E2 at *
      generalize now - r.e.born = AG at *
      generalize r.e.src = es at *
      generalize r.e.dst = ed at *
      generalize r.e.proto = ep at *
      generalize r.e.id = ei at *
      generalize r.e.known = ek at *
      generalize r.e.to = et at *
      generalize r.e.pcs.length = L1 at *
      generalize (waitL r.e).length = L2 at *
      have HCL := hide hcl
      clear hN hr hsv hhv hcl
      by_cases hjk : j = k
      · subst hjk
        go_wp2
        go_roundw
        case rel => exact ⟨j + 1, by omega, by go_num, by show World.ownsRow _ _ _ _ _ _ _; rw [HT.out, if_pos rfl]; exact HO.out.alloc _, HB.out.alloc hsz _⟩
        case measure => simp [intOf]; omega
      · have hne : (j : Int) ≠ (k : Int) := by omega
        rw [if_neg hjk] at HT
        obtain ⟨hi, hq0, hq1, hq2⟩ := HI.out
        generalize ((R.take j).eraseIdx k) = RL at *
        go_wp2_with (at_builtin; refine wpList_append_own _ rfl (.tmp 20) (.tmp 22) 120 rfl w.heap.size 152 i0 _ 11 88 Tryz.underlying120 hi hq0 hq1 hq2 rfl (by decide) _ _ _ rfl ((HO.out.alloc _).alloc _) ⟨wr.heap.size + 1, 0, none⟩ 1 1 [.int .u16 es, .int .u16 ed, .int .u8 ep, .int .u16 ei, .int .i64 AG, .slice sa L1 sc, .bool E1, .int .i64 E2, .bool ek, .int .u8 et, .slice ha L2 hc] rfl rfl (news2 _ _ _ _) (by simp [Value.oneCell']) (by unfold maxLen; omega) (by omega) (by simp; omega) ?_)
        intro v2 w2 hown hgrow hiff
        have HO2 : Hid (w2.ownsRow w.heap.size 152 11 v2 (RL ++ [r]).length ((RL ++ [r]).flatMap (PE.cells now))) := by
          show World.ownsRow _ _ _ _ _ _ _
          rw [List.flatMap_append, List.length_append, List.flatMap_cons, List.flatMap_nil, List.append_nil, HCL.out]
          exact hown
        have HB2 : Hid (Below w.heap.size w w2) := ((HB.out.alloc hsz _).alloc (by simp; omega) _).grown hgrow (by simp; omega) (fun k hk => (HO.out.lt k hk).1)
        clear hown hgrow hiff
        go_wp2
        go_roundw
        case rel => exact ⟨j + 1, by omega, by go_num, by show World.ownsRow _ _ _ _ _ _ _; rw [HT.out]; exact HO2.out, HB2.out⟩
        case measure => simp [intOf]; omega
    · obtain rfl : j = R.length := by omega
      rw [List.take_length] at HO
      have hb := (HB.out.block gS hg).trans HBB.out
      have f0 := arr_frozen hb i
      have e0 := (HB.out.cell (p := ⟨gS, i, none⟩) hg).trans c0'
      have hgr : gS < wr.heap.size := by omega
      have HBR := hide hb
      clear hb
      obtain ⟨ra, rc, rfl⟩ := own_slice HO.out
      go_wp2
      go_end0
      exact ⟨rfl, _, row_setCell HBR.out _, own_set' HO.out HBR.out (by decide) _, (Only.of_below HB.out).setG⟩

end Go.Proofs.YtajphdppmdoalaaGreat

namespace Go.Proofs.YtajphdppmdoalaaGreat
open Go.RowKit
set_option linter.unusedVariables false

/-- A row is appended to a row: the second may be nil. -/
theorem wpList_append_row {P : Program} (w : World) {ops : Array Oper} {rest : List Oper} {o : Oper} {a : Act} {Q : Exit → Act → World → Prop} (hgd : o.guard = none) (s x : Operand) (t : TypeId)
    (ho : o.op = .call { callee := .builtin .append, args := #[s, x], argTypes := #[t, t] })
    (e : TypeId) (i : TypeInfo) (z : Value) (size bytes : Nat) (ht : P.underlying t = some (.slice e)) (hi : P.info? e = some i) (hz : i.zero = some z)
    (hsize : i.size = size) (hby : i.bytes = bytes) (hzs : z.cells.size = size) (hs0 : 0 < size)
    (v : Value) (n : Nat) (xs : List Value) (hs : a.eval s = v) (hown : w.ownsRow 0 e size v n xs)
    (vx : Value) (m : Nat) (news : List Value) (hx : a.eval x = vx) (hrow : w.ownsRow 0 e size vx m news) (hnil : m = 0 → vx = .slice none 0 0) (h1 : ∀ u ∈ news, u.oneCell' = true)
    (h63 : n + m ≤ maxLen) (hbytes : (n + m) * bytes ≤ 140737488355328)
    (h : ∀ v' w', w'.ownsRow 0 e size v' (n + m) (xs ++ news) → w.grownBy w' v.ownBlock → (∀ g, v'.ownBlock = some g → v.ownBlock = some g ∨ w.heap.size ≤ g) → (m = 0 → v' = v) → wpList P ops Q rest (a.put o.dst v') w') : wpList P ops Q (o :: rest) a w := by
  by_cases hm : m = 0
  · subst hm
    have hne : news = [] := List.eq_nil_of_length_eq_zero (by rw [hrow.1]; simp)
    subst hne
    refine wpList_append_own_none hgd s x t ho 0 e i size ht hi v n xs hs hown (hx.trans (hnil rfl)) ?_
    exact h v w (by simpa using hown) ⟨rfl, rfl, rfl, Nat.le_refl _, fun _ _ _ => rfl⟩ (fun g hg => .inl hg) (fun _ => rfl)
  · obtain ⟨gx, c, hvx⟩ := own_some hrow (by omega)
    rw [hvx] at hx hrow
    refine wpList_append_at w hgd s x t ho e i z size bytes ht hi hz hsize hby hzs hs0 v n xs hs hown ⟨gx, 0, none⟩ m c (by omega) news hx hrow.1 (hrow.cells (g := gx) rfl) h1 h63 hbytes ?_
    intro g cap w' ho' hg' hwh _
    exact h _ w' ho' hg' (fun g' hg'' => by simp only [Value.ownBlock, Option.some.injEq] at hg''; subst hg''; exact hwh) (fun h0 => absurd h0 hm)
theorem ev_one (l : List Ev) : ∀ u ∈ l.flatMap Ev.cells, u.oneCell' = true := by
  intro u hu
  obtain ⟨v, _, hv⟩ := List.mem_flatMap.1 hu
  simp only [Ev.cells, List.mem_cons, List.not_mem_nil, or_false] at hv
  rcases hv with rfl | rfl | rfl <;> rfl

end Go.Proofs.YtajphdppmdoalaaGreat
