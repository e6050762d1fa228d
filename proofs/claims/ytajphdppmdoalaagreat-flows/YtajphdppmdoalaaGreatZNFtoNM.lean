import Derived.Test.YtajphdppmdoalaaGreatZMDtoND
import Derived.Test.YtajphdppmdoalaaGreatZNEtoNE
namespace Go.Proofs.YtajphdppmdoalaaGreat
open Go.RowKit
set_option linter.unusedVariables false

/-- An entry of the program's, as it lies in memory: its rows of spans and of pieces that wait. -/
structure PE where
  e : Ent
  sv : Value
  hv : Value
def PE.cells (now : Int) (r : PE) : List Value := [.int .u16 r.e.src, .int .u16 r.e.dst, .int .u8 r.e.proto, .int .u16 r.e.id, .int .i64 (now - r.e.born), r.sv, .bool (endO r.e.pcs).isSome, .int .i64 ((endO r.e.pcs).getD 0), .bool r.e.known, .int .u8 r.e.to, r.hv]
theorem PE.len (now : Int) (r : PE) : (r.cells now).length = 11 := rfl
/-- The entries of one replica: their row is vE, all their blocks are of F; no two share a row. -/
structure StIs (w : World) (vE : Value) (R : List PE) (now : Int) (F : Nat → Prop) : Prop where
  rE : w.ownsRow 0 152 11 vE R.length (R.flatMap (PE.cells now))
  rs : ∀ r ∈ R, w.ownsRow 0 165 2 r.sv r.e.pcs.length (r.e.pcs.flatMap Pc.span)
  rh : ∀ r ∈ R, w.ownsRow 0 154 2 r.hv (waitL r.e).length ((waitL r.e).flatMap Pc.wtg)
  apS : R.Pairwise (fun r q => ∀ g, r.sv.ownBlock = some g → q.sv.ownBlock ≠ some g)
  apH : R.Pairwise (fun r q => ∀ g, r.hv.ownBlock = some g → q.hv.ownBlock ≠ some g)
  fE : ∀ g, vE.ownBlock = some g → F g
  fS : ∀ r ∈ R, ∀ g, r.sv.ownBlock = some g → F g
  fH : ∀ r ∈ R, ∀ g, r.hv.ownBlock = some g → F g
  flt : ∀ k, F k → k < w.heap.size
theorem StIs.only {w w' : World} {vE : Value} {R : List PE} {now : Int} {F G : Nat → Prop} (h : StIs w vE R now F) (ho : Only G w w') (hG : ∀ k, F k → ¬ G k) : StIs w' vE R now F :=
  ⟨own_only h.rE ho (fun g hg => hG g (h.fE g hg)), fun r hr => own_only (h.rs r hr) ho (fun g hg => hG g (h.fS r hr g hg)), fun r hr => own_only (h.rh r hr) ho (fun g hg => hG g (h.fH r hr g hg)), h.apS, h.apH, h.fE, h.fS, h.fH, fun k hk => Nat.lt_of_lt_of_le (h.flt k hk) ho.size⟩
theorem StIs.below {w w' : World} {vE : Value} {R : List PE} {now : Int} {F : Nat → Prop} (h : StIs w vE R now F) (hb : Below w.heap.size w w') : StIs w' vE R now F :=
  h.only (G := fun _ => False) (Only.of_below hb) (fun _ _ f => f)
/-- The entries are few and small. -/
def PFew (R : List PE) : Prop := R.length ≤ 1000 ∧ ∀ r ∈ R, PcB r.e.pcs
theorem wait_few (e : Ent) (h : PcB e.pcs) : PcB (waitL e) := ⟨Nat.le_trans (List.length_filter_le _ _) h.1, fun q hq => h.2 q (List.mem_filter.1 hq).1⟩
theorem Tryz.infoPe : (Tryz.prog.info? 152).map (fun i => (i.zero, i.size, i.bytes)) = some (some (.agg #[.int .u16 0, .int .u16 0, .int .u8 0, .int .u16 0, .int .i64 0, .slice none 0 0, .bool false, .int .i64 0, .bool false, .int .u8 0, .slice none 0 0]), 11, 88) := by kernel_rfl
theorem find_take {α} (f : α → Bool) (l : List α) (j : Nat) (x : α) (h : l[j]? = some x) (hn : ∀ a ∈ l.take j, f a = false) (hx : f x = true) : l.findIdx f = j := by
  conv => lhs; rw [split_at l j x h]
  rw [find_mid f _ _ x hn hx, List.length_take]
  have := (List.getElem?_eq_some_iff.1 h).1
  omega

set_option maxRecDepth 100000 in
set_option maxHeartbeats 1600000 in
theorem find_any (gS i : Nat) (vE : Value) (R : List PE) (now : Int) (F : Nat → Prop) (src dst proto id : Int) (w : World) (hg : gS < w.heap.size) (c0 : w.cell? ⟨gS, i, none⟩ = some vE) (h : StIs w vE R now F) (hf : PFew R) :
    Calls Tryz.prog 105 #[.pointer (some ⟨gS, i, none⟩), .agg #[.int .u16 src, .int .u16 dst, .int .u8 proto, .int .u16 id]] w fun e w' => e = .returned (.int .i64 ((R.map PE.e).findIdx (fun e => e.src == src && e.dst == dst && e.proto == proto && e.id == id) : Nat)) ∧ Below w.heap.size w w' := by
  have HH := hide h
  have hn : R.length ≤ 1000 := hf.1
  obtain ⟨ao, cap, rfl⟩ := own_slice h.rE
  clear h hf
  generalize hK : (R.map PE.e).findIdx (fun e => e.src == src && e.dst == dst && e.proto == proto && e.id == id) = K
  have HK := hide hK
  clear hK
  go_enter Tryz.func105, Tryz.ntmps105
  go_wp2_with fail
  have cb := box_cell (Below.refl (w.heap.size + 1) (w.alloc (.cells #[.int .u16 src, .int .u16 dst, .int .u8 proto, .int .u16 id] 148)))
  have HB0 : Hid (Below w.heap.size w (w.alloc (.cells #[.int .u16 src, .int .u16 dst, .int .u8 proto, .int .u16 id] 148))) := (Below.refl _ _).alloc (Nat.le_refl _) _
  have hz0 : w.heap.size + 1 ≤ (w.alloc (.cells #[.int .u16 src, .int .u16 dst, .int .u8 proto, .int .u16 id] 148)).heap.size := by simp
  generalize w.alloc (.cells #[.int .u16 src, .int .u16 dst, .int .u8 proto, .int .u16 id] 148) = w1 at *
  have HCB := hide cb
  clear cb
  go_loopw [12] (fun k wr => ∃ j : Nat, j ≤ R.length ∧ k = .int .i64 j ∧ Hid (∀ a ∈ (R.map PE.e).take j, (fun e : Ent => e.src == src && e.dst == dst && e.proto == proto && e.id == id) a = false) ∧ Hid (Below (w.heap.size + 1) w1 wr)) (fun k _ => R.length - (intOf k).toNat)
  case atStart => exact ⟨0, Nat.zero_le _, rfl, by intro a ha; simp at ha, Below.refl _ _⟩
  case round =>
    obtain ⟨j, hj, rfl, HNo, HB⟩ := hrel
    have HBW : Hid (Below w.heap.size w wr) := HB0.out.trans (HB.out.mono (by omega))
    have hsz : w.heap.size + 1 ≤ wr.heap.size := by have := HB.out.size; omega
    have e0 := (HBW.out.cell (p := ⟨gS, i, none⟩) hg).trans c0
    have hgr : gS < wr.heap.size := by omega
    by_cases hlt : j < R.length
    · obtain ⟨g, q, hgq⟩ := own_some HH.out.rE (by omega)
      rw [Value.slice.injEq] at hgq
      obtain ⟨rfl, _, rfl⟩ := hgq
      have hN := (HH.out.below HBW.out).rE
      have hgz : g < wr.heap.size := (hN.lt g rfl).2
      obtain ⟨r, hr⟩ : ∃ r, R[j]? = some r := ⟨_, List.getElem?_eq_getElem hlt⟩
      have hre : (R.map PE.e)[j]? = some r.e := by rw [List.getElem?_map, hr]; rfl
      have HRE := hide hre
      have HT := hide (take_snoc (R.map PE.e) j r.e hre)
      have r0 : wr.cell? ⟨g, j * 11, none⟩ = _ := row_get (PE.cells now) (PE.len now) hN j r hr 0 _ rfl
      have r1 := row_get (PE.cells now) (PE.len now) hN j r hr 1 _ rfl
      have r2 := row_get (PE.cells now) (PE.len now) hN j r hr 2 _ rfl
      have r3 := row_get (PE.cells now) (PE.len now) hN j r hr 3 _ rfl
      have r4 := row_get (PE.cells now) (PE.len now) hN j r hr 4 _ rfl
      have r5 := row_get (PE.cells now) (PE.len now) hN j r hr 5 _ rfl
      have r6 := row_get (PE.cells now) (PE.len now) hN j r hr 6 _ rfl
      have r7 := row_get (PE.cells now) (PE.len now) hN j r hr 7 _ rfl
      have r8 := row_get (PE.cells now) (PE.len now) hN j r hr 8 _ rfl
      have r9 := row_get (PE.cells now) (PE.len now) hN j r hr 9 _ rfl
      have r10 := row_get (PE.cells now) (PE.len now) hN j r hr 10 _ rfl
      obtain ⟨sa, sc, hsv⟩ := own_slice (HH.out.rs r (List.mem_of_getElem? hr))
      obtain ⟨ha, hc, hhv⟩ := own_slice (HH.out.rh r (List.mem_of_getElem? hr))
      rw [hsv] at r5
      rw [hhv] at r10
      obtain ⟨re, rsv, rhv⟩ := r
      obtain ⟨eo, es, ed, ep, ei, eb, pcs, ek, et⟩ := re
      simp only at HRE HT r0 r1 r2 r3 r4 r5 r6 r7 r8 r9 r10
      generalize (endO pcs).isSome = E1 at *
      generalize (endO pcs).getD 0 = E2 at *
      generalize (waitL _).length = W1 at *
      generalize now - eb = AG at *
      clear hN hr hre hsv hhv
      have d0 := fun k => (HB.out.cell (p := ⟨w.heap.size, k, none⟩) (by simp)).trans (HCB.out k)
      have hwz : w.heap.size < wr.heap.size := by omega
      by_cases hq : es = src
      · subst hq
        by_cases hq : ed = dst
        · subst hq
          by_cases hq : ep = proto
          · subst hq
            by_cases hq : ei = id
            · subst hq
              have HKJ : Hid (K = j) := HK.out.symm.trans (find_take _ _ j _ HRE.out HNo.out (by simp))
              go_wp2
              go_ret
              exact ⟨ret_int (by rw [HKJ.out]), HBW.out.alloc (by omega) _⟩
            · go_wp2
              go_roundw
              case rel => exact ⟨j + 1, by omega, by go_num, by show ∀ a ∈ _, _; rw [HT.out]; intro a ha; rcases List.mem_append.1 ha with ha | ha; exact HNo.out a ha; rw [List.mem_singleton.1 ha]; simp [hq], HB.out.alloc (by omega) _⟩
              case measure => simp [intOf]; omega
          · go_wp2
            go_roundw
            case rel => exact ⟨j + 1, by omega, by go_num, by show ∀ a ∈ _, _; rw [HT.out]; intro a ha; rcases List.mem_append.1 ha with ha | ha; exact HNo.out a ha; rw [List.mem_singleton.1 ha]; simp [hq], HB.out.alloc (by omega) _⟩
            case measure => simp [intOf]; omega
        · go_wp2
          go_roundw
          case rel => exact ⟨j + 1, by omega, by go_num, by show ∀ a ∈ _, _; rw [HT.out]; intro a ha; rcases List.mem_append.1 ha with ha | ha; exact HNo.out a ha; rw [List.mem_singleton.1 ha]; simp [hq], HB.out.alloc (by omega) _⟩
          case measure => simp [intOf]; omega
      · go_wp2
        go_roundw
        case rel => exact ⟨j + 1, by omega, by go_num, by show ∀ a ∈ _, _; rw [HT.out]; intro a ha; rcases List.mem_append.1 ha with ha | ha; exact HNo.out a ha; rw [List.mem_singleton.1 ha]; simp [hq], HB.out.alloc (by omega) _⟩
        case measure => simp [intOf]; omega
    · obtain rfl : j = R.length := by omega
      have hall := find_none (fun e : Ent => e.src == src && e.dst == dst && e.proto == proto && e.id == id) (R.map PE.e) (by have := HNo.out; rw [List.take_of_length_le (by simp)] at this; exact this)
      rw [List.length_map] at hall
      have HAL := hide hall
      clear hall
      go_wp2
      go_ret
      exact ⟨ret_int (by rw [← HK.out, HAL.out]), HBW.out⟩

end Go.Proofs.YtajphdppmdoalaaGreat

namespace Go.Proofs.YtajphdppmdoalaaGreat
open Go.RowKit
set_option linter.unusedVariables false

theorem ent_put (now : Int) (R : List PE) (k : Nat) (r r' : PE) (h : R[k]? = some r) (h1 : r'.e.src = r.e.src) (h2 : r'.e.dst = r.e.dst) (h3 : r'.e.proto = r.e.proto) (h4 : r'.e.id = r.e.id) (h5 : r'.e.born = r.e.born) :
    entSet (R.flatMap (PE.cells now)) (k * 11) r'.sv (.bool (endO r'.e.pcs).isSome) (.int .i64 ((endO r'.e.pcs).getD 0)) (.bool r'.e.known) (.int .u8 r'.e.to) r'.hv = (R.set k r').flatMap (PE.cells now) := by
  have hs := split_at R k r h
  have hk : k < R.length := (List.getElem?_eq_some_iff.1 h).1
  have hl : (R.take k).length = k := by rw [List.length_take]; omega
  have hL : ((R.take k).flatMap (PE.cells now)).length = k * 11 := by rw [flat_length (PE.cells now) 11 (PE.len now), hl]
  have hset : (R.set k r').flatMap (PE.cells now) = (R.take k).flatMap (PE.cells now) ++ (PE.cells now r' ++ (R.drop (k + 1)).flatMap (PE.cells now)) := by
    have := set_mid (R.take k) (R.drop (k + 1)) r r'
    rw [← hs, hl] at this
    rw [this, List.flatMap_append, List.flatMap_cons]
  have hR : R.flatMap (PE.cells now) = (R.take k).flatMap (PE.cells now) ++ (PE.cells now r ++ (R.drop (k + 1)).flatMap (PE.cells now)) := by
    conv => lhs; rw [hs]
    rw [List.flatMap_append, List.flatMap_cons]
  rw [hset, hR]
  generalize (R.take k).flatMap (PE.cells now) = A at *
  generalize (R.drop (k + 1)).flatMap (PE.cells now) = B at *
  unfold entSet PE.cells
  rw [h1, h2, h3, h4, h5]
  have hx : ∀ (C : List Value) (j : Nat) (v : Value), (A ++ C).set (k * 11 + j) v = A ++ C.set j v := by
    intro C j v
    rw [List.set_append_right _ _ (by omega), hL]
    congr 2
    omega
  rw [hx, hx, hx, hx, hx, hx]
  rfl
theorem endO_snoc (l : List Pc) (q : Pc) : endO (l ++ [q]) = if q.ends then some q.b else endO l := by
  unfold endO
  rw [List.filter_append]
  cases hq : q.ends with
  | true => simp [hq]
  | false => simp [hq]
theorem endO_map (l : List Pc) (f : Pc → Pc) (hf : ∀ q, (f q).ends = q.ends ∧ (f q).b = q.b) : endO (l.map f) = endO l := by
  unfold endO
  rw [List.filter_map, List.getLast?_map, Option.map_map]
  have h1 : ((fun x : Pc => x.ends) ∘ f) = (fun x => x.ends) := by funext q; exact (hf q).1
  have h2 : ((fun x : Pc => x.b) ∘ f) = (fun x => x.b) := by funext q; exact (hf q).2
  rw [h1, h2]
/-- An entry behind an accepted piece: its spans, its end, and what waits. -/
theorem taken_facts (b : Int) (e : Ent) (seq : Nat) (p : Pk) (h0 : 0 ≤ p.off) :
    (takenB b e (pcM seq p)).1.known = (e.known || p.off == 0) ∧ (takenB b e (pcM seq p)).1.to = (if p.off = 0 then b else e.to) ∧
    (takenB b e (pcM seq p)).1.pcs.length = e.pcs.length + 1 ∧ (takenB b e (pcM seq p)).1.pcs.flatMap Pc.span = e.pcs.flatMap Pc.span ++ [.int .i64 (p.off * 4), .int .i64 (p.off * 4 + p.dlen)] ∧
    (endO (takenB b e (pcM seq p)).1.pcs).isSome = (!p.more || (endO e.pcs).isSome) ∧ (endO (takenB b e (pcM seq p)).1.pcs).getD 0 = (if p.more then (endO e.pcs).getD 0 else p.off * 4 + p.dlen) ∧
    ((e.known || p.off == 0) = true → waitL (takenB b e (pcM seq p)).1 = []) ∧ ((e.known || p.off == 0) = false → (waitL (takenB b e (pcM seq p)).1).length = (waitL e).length + 1 ∧ (waitL (takenB b e (pcM seq p)).1).flatMap Pc.wtg = (waitL e).flatMap Pc.wtg ++ [.int .i64 seq, .int .i64 p.dlen]) ∧
    (takenB b e (pcM seq p)).2 = accEv seq (waitL e) (e.known || p.off == 0) (if p.off = 0 then b else e.to) ∧ bytesL (takenB b e (pcM seq p)).1.pcs = bytesL e.pcs + p.dlen := by
  have ha : (pcM seq p).a = p.off * 4 := by simp [pcM]; omega
  have hb : (pcM seq p).b = p.off * 4 + p.dlen := by simp [pcM]; omega
  have hs : (pcM seq p).seq = seq := rfl
  have he : (pcM seq p).ends = !p.more := rfl
  have h1 : decide ((pcM seq p).a = 0) = (p.off == 0) := by
    rw [ha]
    by_cases h : p.off = 0
    · rw [h]; rfl
    · rw [show (p.off == 0) = false from by simpa using h, decide_eq_false (by omega)]
  have h2 : ∀ {α : Type} (x y : α), (if (pcM seq p).a = 0 then x else y) = if p.off = 0 then x else y := by
    intro α x y
    by_cases h : p.off = 0
    · rw [if_pos h, if_pos (by rw [ha, h]; rfl)]
    · rw [if_neg h, if_neg (by rw [ha]; omega)]
  generalize hK : (e.known || p.off == 0) = K
  have hT : takenB b e (pcM seq p) = ({ e with known := K, «to» := if p.off = 0 then b else e.to, pcs := e.pcs.map (fun q => if K = true then { q with waits := false } else q) ++ [{ pcM seq p with waits := !K }] }, if K = true then ⟨seq, 0, if p.off = 0 then b else e.to⟩ :: (waitL e).map (fun q => ⟨q.seq, 0, if p.off = 0 then b else e.to⟩) else []) := by
    unfold takenB
    simp only [h1, hK, h2, hs]
  rw [hT]
  have hmap : ∀ q : Pc, (if K = true then { q with waits := false } else q).a = q.a ∧ (if K = true then { q with waits := false } else q).b = q.b ∧ (if K = true then { q with waits := false } else q).ends = q.ends := by
    intro q; split <;> exact ⟨rfl, rfl, rfl⟩
  have hend : endO (e.pcs.map (fun q => if K = true then { q with waits := false } else q) ++ [{ pcM seq p with waits := !K }]) = if p.more then endO e.pcs else some (p.off * 4 + p.dlen) := by
    rw [endO_snoc, endO_map _ _ (fun q => ⟨(hmap q).2.2, (hmap q).2.1⟩)]
    simp only [he, hb]
    cases p.more <;> rfl
  refine ⟨rfl, rfl, by simp, ?_, ?_, ?_, ?_, ?_, ?_, ?_⟩
  · simp only [List.flatMap_append, List.flatMap_cons, List.flatMap_nil, List.append_nil, List.flatMap_map]
    congr 1
    · congr 1
      funext q
      simp only [Pc.span, (hmap q).1, (hmap q).2.1]
    · simp only [Pc.span, ha, hb]
  · simp only [hend]
    cases p.more <;> simp
  · simp only [hend]
    cases p.more <;> simp
  · intro hk
    subst hk
    simp only [waitL, List.filter_append, if_true, wait_forgot]
    simp
  · intro hk
    subst hk
    simp only [waitL, List.filter_append, Bool.false_eq_true, if_false, List.map_id']
    refine ⟨by simp, ?_⟩
    rw [List.flatMap_append]
    simp [Pc.wtg, ha, hb, hs]
    omega
  · unfold accEv
    rfl
  · have hbm : bytesL (e.pcs.map (fun q => if K = true then { q with waits := false } else q)) = bytesL e.pcs := by
      unfold bytesL
      rw [List.map_map]
      congr 1
      congr 1
      funext q
      simp only [Function.comp, (hmap q).1, (hmap q).2.1]
    simp only
    rw [bytesL_snoc, hbm]
    simp only [ha, hb]
    omega
/-- The program counts as the document does. -/
theorem whole_prog (b : Int) (e : Ent) (seq : Nat) (p : Pk) (h0 : 0 ≤ p.off) (hb : 0 ≤ bytesL e.pcs) :
    wholeM (takenB b e (pcM seq p)).1 = ((endO (takenB b e (pcM seq p)).1.pcs).isSome && (bytesL (takenB b e (pcM seq p)).1.pcs == (endO (takenB b e (pcM seq p)).1.pcs).getD 0)) := by
  have h1 : bytesL (takenB b e (pcM seq p)).1.pcs = bytesL e.pcs + p.dlen := (taken_facts b e seq p h0).2.2.2.2.2.2.2.2.2
  have h2 : wholeM (takenB b e (pcM seq p)).1 = (bytesL (takenB b e (pcM seq p)).1.pcs == (endO (takenB b e (pcM seq p)).1.pcs).getD (-1)) := rfl
  rw [h2]
  cases hE : endO (takenB b e (pcM seq p)).1.pcs with
  | none =>
    rw [h1]
    simp
    omega
  | some x => simp

end Go.Proofs.YtajphdppmdoalaaGreat

namespace Go.Proofs.YtajphdppmdoalaaGreat
open Go.RowKit
set_option linter.unusedVariables false

theorem pair_set {α : Type} (P : α → α → Prop) (l : List α) (k : Nat) (r r' : α) (h : l[k]? = some r) (hp : l.Pairwise P) (h1 : ∀ x ∈ l, P x r → P x r') (h2 : ∀ x ∈ l, P r x → P r' x) : (l.set k r').Pairwise P := by
  have hs := split_at l k r h
  have hl : (l.take k).length = k := by rw [List.length_take]; have := (List.getElem?_eq_some_iff.1 h).1; omega
  have hset := set_mid (l.take k) (l.drop (k + 1)) r r'
  rw [← hs, hl] at hset
  rw [hset]
  rw [hs] at hp
  have hA : ∀ x ∈ l.take k, x ∈ l := fun x hx => List.mem_of_mem_take hx
  have hB : ∀ x ∈ l.drop (k + 1), x ∈ l := fun x hx => List.mem_of_mem_drop hx
  generalize l.take k = A at *
  generalize l.drop (k + 1) = B at *
  obtain ⟨p1, p2, p3⟩ := List.pairwise_append.1 hp
  obtain ⟨q1, q2⟩ := List.pairwise_cons.1 p2
  refine List.pairwise_append.2 ⟨p1, List.pairwise_cons.2 ⟨fun x hx => h2 x (hB x hx) (q1 x hx), q2⟩, ?_⟩
  intro a ha b hb
  rcases List.mem_cons.1 hb with rfl | hb
  · exact h1 a (hA a ha) (p3 a ha r List.mem_cons_self)
  · exact p3 a ha b (List.mem_cons_of_mem _ hb)
theorem pair_get {α : Type} (P : α → α → Prop) (hsym : ∀ a b, P a b → P b a) (l : List α) (hp : l.Pairwise P) (i j : Nat) (a b : α) (hij : i ≠ j) (hi : l[i]? = some a) (hj : l[j]? = some b) : P a b := by
  obtain ⟨h1, rfl⟩ := List.getElem?_eq_some_iff.1 hi
  obtain ⟨h2, rfl⟩ := List.getElem?_eq_some_iff.1 hj
  rcases Nat.lt_or_gt_of_ne hij with h | h
  · exact List.pairwise_iff_getElem.1 hp i j h1 h2 h
  · exact hsym _ _ (List.pairwise_iff_getElem.1 hp j i h2 h1 h)
/-- The blocks F, and what has been made since. -/
def Grew (F : Nat → Prop) (w w' : World) (k : Nat) : Prop := F k ∨ (w.heap.size ≤ k ∧ k < w'.heap.size)

/-- The replica behind accept. -/
theorem StIs.put {w w' : World} {g cap : Nat} {R : List PE} {now : Int} {F : Nat → Prop} (h : StIs w (.slice (some ⟨g, 0, none⟩) R.length cap) R now F) (k : Nat) (r : PE) (hk : R[k]? = some r) (b : Int) (seq : Nat) (p : Pk) (v sv' hv' : Value) (h0 : 0 ≤ p.off)
    (ha : AccPost w g R.length cap (k * 11) (R.flatMap (PE.cells now)) r.e.pcs (waitL r.e) r.sv r.hv r.e.known r.e.to b seq p v sv' hv' w') :
    StIs w' (.slice (some ⟨g, 0, none⟩) R.length cap) (R.set k ⟨(takenB b r.e (pcM seq p)).1, sv', hv'⟩) now (Grew F w w') ∧ Only F w w' := by
  obtain ⟨t1, t2, t3, t4, t5, t6, t7, t8, t9, t10⟩ := taken_facts b r.e seq p h0
  have hr : r ∈ R := List.mem_of_getElem? hk
  have hon : Only F w w' := ha.only.mono (by
    intro q _ hq
    rcases hq with rfl | hq | hq
    · exact h.fE _ rfl
    · exact h.fS r hr q hq
    · exact h.fH r hr q hq)
  have mem : ∀ x ∈ R.set k ⟨(takenB b r.e (pcM seq p)).1, sv', hv'⟩, x ∈ R ∨ x = ⟨(takenB b r.e (pcM seq p)).1, sv', hv'⟩ := fun x hx => List.mem_or_eq_of_mem_set hx
  have hput := ent_put now R k r ⟨(takenB b r.e (pcM seq p)).1, sv', hv'⟩ hk rfl rfl rfl rfl rfl
  have hrow := ha.row
  have hent : entSet (R.flatMap (PE.cells now)) (k * 11) sv' (.bool (!p.more || (endO r.e.pcs).isSome)) (.int .i64 (if p.more = true then (endO r.e.pcs).getD 0 else p.off * 4 + p.dlen)) (.bool (r.e.known || p.off == 0)) (.int .u8 (if p.off = 0 then b else r.e.to)) hv' = (R.set k ⟨(takenB b r.e (pcM seq p)).1, sv', hv'⟩).flatMap (PE.cells now) := by
    rw [← hput]
    simp only
    rw [t5, t6, t1, t2]
  rw [hent] at hrow
  have hsv : ∀ q, sv'.ownBlock = some q → q < w'.heap.size := fun q hq => (ha.rs.lt q hq).2
  have hrh : w'.ownsRow 0 154 2 hv' (waitL (takenB b r.e (pcM seq p)).1).length ((waitL (takenB b r.e (pcM seq p)).1).flatMap Pc.wtg) := by
    have h1 := ha.rh
    cases hK : (r.e.known || p.off == 0) with
    | true =>
      rw [hK, if_pos rfl] at h1
      rw [h1, t7 hK]
      exact World.ownsRow_nil _ _ _ _
    | false =>
      rw [hK] at h1
      simp only [Bool.false_eq_true, if_false] at h1
      rw [(t8 hK).1, (t8 hK).2]
      exact h1
  have hhv : ∀ q, hv'.ownBlock = some q → q < w'.heap.size := fun q hq => (hrh.lt q hq).2
  have hng : ∀ {u : Value} {e : TypeId} {s n : Nat} {ys : List Value}, w.ownsRow 0 e s u n ys → e ≠ 152 → ∀ q, u.ownBlock = some q → q ≠ g := by
    intro u e s n ys hu hne q hq hqg
    subst hqg
    exact own_apart' hu h.rE hne hq rfl
  have oldS : ∀ i x, i ≠ k → R[i]? = some x → ∀ q, x.sv.ownBlock = some q → r.sv.ownBlock ≠ some q := fun i x hik hx q hq => pair_get (fun a c : PE => ∀ q, a.sv.ownBlock = some q → c.sv.ownBlock ≠ some q) (fun a c hac q h1 h2 => hac q h2 h1) R h.apS i k x r hik hx hk q hq
  have oldH : ∀ i x, i ≠ k → R[i]? = some x → ∀ q, x.hv.ownBlock = some q → r.hv.ownBlock ≠ some q := fun i x hik hx q hq => pair_get (fun a c : PE => ∀ q, a.hv.ownBlock = some q → c.hv.ownBlock ≠ some q) (fun a c hac q h1 h2 => hac q h2 h1) R h.apH i k x r hik hx hk q hq
  have at' : ∀ x ∈ R.set k ⟨(takenB b r.e (pcM seq p)).1, sv', hv'⟩, x = ⟨(takenB b r.e (pcM seq p)).1, sv', hv'⟩ ∨ ∃ i, i ≠ k ∧ R[i]? = some x := by
    intro x hx
    obtain ⟨i, hi⟩ := List.getElem?_of_mem hx
    by_cases hik : i = k
    · subst hik
      rw [List.getElem?_set_self (List.getElem?_eq_some_iff.1 hk).1] at hi
      exact .inl (by simpa using hi.symm)
    · rw [List.getElem?_set_ne (fun hh => hik hh.symm)] at hi
      exact .inr ⟨i, hik, hi⟩
  have lts : ∀ x ∈ R, ∀ q, x.sv.ownBlock = some q → q < w.heap.size := fun x hx q hq => ((h.rs x hx).lt q hq).2
  have lth : ∀ x ∈ R, ∀ q, x.hv.ownBlock = some q → q < w.heap.size := fun x hx q hq => ((h.rh x hx).lt q hq).2
  refine ⟨⟨by rw [List.length_set]; exact hrow, ?_, ?_, ?_, ?_, fun q hq => .inl (h.fE q hq), ?_, ?_, ?_⟩, hon⟩
  · intro x hx
    rcases at' x hx with rfl | ⟨i, hik, hi⟩
    · simp only
      rw [t3, t4]
      exact ha.rs
    · have hxR := List.mem_of_getElem? hi
      refine own_only (h.rs x hxR) ha.only (fun q hq hh => ?_)
      rcases hh with hh | hh | hh
      · exact hng (h.rs x hxR) (by decide) q hq hh
      · exact oldS i x hik hi q hq hh
      · exact own_apart' (h.rs x hxR) (h.rh r hr) (by decide) hq hh
  · intro x hx
    rcases at' x hx with rfl | ⟨i, hik, hi⟩
    · exact hrh
    · have hxR := List.mem_of_getElem? hi
      refine own_only (h.rh x hxR) ha.only (fun q hq hh => ?_)
      rcases hh with hh | hh | hh
      · exact hng (h.rh x hxR) (by decide) q hq hh
      · exact own_apart' (h.rh x hxR) (h.rs r hr) (by decide) hq hh
      · exact oldH i x hik hi q hq hh
  · refine pair_set _ R k r _ hk h.apS ?_ ?_
    · intro x hx hxr q hq hq'
      rcases ha.fs q hq' with h1 | h1
      · exact hxr q hq h1
      · have := lts x hx q hq; omega
    · intro x hx hxr q hq' hq
      rcases ha.fs q hq' with h1 | h1
      · exact hxr q h1 hq
      · have := lts x hx q hq; omega
  · refine pair_set _ R k r _ hk h.apH ?_ ?_
    · intro x hx hxr q hq hq'
      rcases ha.fh q hq' with h1 | h1
      · exact hxr q hq h1
      · have := lth x hx q hq; omega
    · intro x hx hxr q hq' hq
      rcases ha.fh q hq' with h1 | h1
      · exact hxr q h1 hq
      · have := lth x hx q hq; omega
  · intro x hx q hq
    rcases at' x hx with rfl | ⟨i, hik, hi⟩
    · rcases ha.fs q hq with h1 | h1
      · exact .inl (h.fS r hr q h1)
      · exact .inr ⟨h1, hsv q hq⟩
    · exact .inl (h.fS x (List.mem_of_getElem? hi) q hq)
  · intro x hx q hq
    rcases at' x hx with rfl | ⟨i, hik, hi⟩
    · rcases ha.fh q hq with h1 | h1
      · exact .inl (h.fH r hr q h1)
      · exact .inr ⟨h1, hhv q hq⟩
    · exact .inl (h.fH x (List.mem_of_getElem? hi) q hq)
  · intro q hq
    rcases hq with hq | hq
    · exact Nat.lt_of_lt_of_le (h.flt q hq) ha.only.size
    · exact hq.2

end Go.Proofs.YtajphdppmdoalaaGreat
