import Derived.Test.YtajphdppmdoalaaGreatZCDtoDC
namespace Go.Proofs.YtajphdppmdoalaaGreat
open Go.RowKit
set_option linter.unusedVariables false

theorem Tryz.infoPr : (Tryz.prog.info? 52).map (fun i => (i.zero, i.size, i.bytes)) = some (some (.agg #[.pointer none, .pointer none]), 2, 16) := by kernel_rfl
set_option maxRecDepth 100000 in
set_option maxHeartbeats 1600000 in
theorem begins_yes (wb m : Nat) (vl : Value) (xs : List Value) (ee aa bb src dst proto id off : Int) (more : Bool) (sport dport : Int) (dso : Option Addr) (dsn dsc : Nat) (ao : Option Addr) (n cap : Nat) (w : World) (Q1 : Nat → World → Prop) (Q2 : Nat → Nat → World → Prop) (Q3 : World → Prop) (hm : m ≤ 2000000000000)
    (HX : Hid (Calls Tryz.prog 14 #[.int .i64 aa, .int .i64 bb] (w.alloc (.cells #[.int .i64 5, .int .i64 ee, .int .i64 aa, .int .i64 bb, .int .u16 src, .int .u16 dst, .int .u8 proto, .int .u16 id, .int .u8 off, .bool more, .int .u16 sport, .int .u16 dport, .slice dso dsn dsc, .slice ao n cap] 42)) fun e w' => ∃ xb, e = .returned (.tuple #[.pointer (some ⟨xb, 0, none⟩), .int .i64 0]) ∧ Q1 xb w'))
    (HY : Hid (∀ xb wz, Q1 xb wz → Calls Tryz.prog 15 #[.int .i64 aa, .int .i64 bb] wz fun e w' => ∃ yb, e = .returned (.tuple #[.pointer (some ⟨yb, 0, none⟩), .int .i64 0]) ∧ Q2 xb yb w'))
    (HB1 : Hid (∀ xb wz, Q1 xb wz → w.heap.size < wz.heap.size ∧ ∀ j, wz.cell? ⟨w.heap.size, j, none⟩ = (#[.int .i64 5, .int .i64 ee, .int .i64 aa, .int .i64 bb, .int .u16 src, .int .u16 dst, .int .u8 proto, .int .u16 id, .int .u8 off, .bool more, .int .u16 sport, .int .u16 dport, .slice dso dsn dsc, .slice ao n cap] : Array Value)[j]?))
    (HW : Hid (∀ xb yb wz, Q2 xb yb wz → ∃ cs, wz.heap[wb]? = some (.cells cs 34 (0, 0)) ∧ cs[0]? = some vl ∧ wz.ownsRow 0 52 2 vl m xs))
    (HF : Hid (∀ xb yb wz o g c w', Q2 xb yb wz → w'.ownsRow 0 52 2 (.slice (some ⟨g, 0, none⟩) (m + 1) c) (m + 1) (xs ++ [.pointer (some ⟨xb, 0, none⟩), .pointer (some ⟨yb, 0, none⟩)]) → (wz.alloc o).grownBy w' vl.ownBlock → (vl.ownBlock = some g ∨ (wz.alloc o).heap.size ≤ g) → Q3 (w'.setCell ⟨wb, 0, none⟩ (.slice (some ⟨g, 0, none⟩) (m + 1) c)))) :
    Calls Tryz.prog 11 #[.pointer (some ⟨wb, 0, none⟩), .agg #[.int .i64 5, .int .i64 ee, .int .i64 aa, .int .i64 bb, .int .u16 src, .int .u16 dst, .int .u8 proto, .int .u16 id, .int .u8 off, .bool more, .int .u16 sport, .int .u16 dport, .slice dso dsn dsc, .slice ao n cap]] w fun e w' => e = .returned (.bool true) ∧ Q3 w' := by
  obtain ⟨i0, hi, hz0, hz1, hz2⟩ := info_parts Tryz.infoPr
  go_enter Tryz.func11, Tryz.ntmps11
  go_wp2_with fail
  refine HX.out.mono ?_
  rintro e w3 ⟨xb, rfl, q1⟩
  obtain ⟨h1, c1⟩ := HB1.out xb w3 q1
  go_wp2_with fail
  refine (HY.out xb w3 q1).mono ?_
  rintro e w4 ⟨yb, rfl, q2⟩
  clear c1 h1 q1 HX HY HB1
  obtain ⟨cs, hblk, hcs, hrow⟩ := HW.out xb yb w4 q2
  have HQ := hide q2
  have HR := hide hrow
  have hwb := lt_of_block hblk
  have cV : w4.cell? ⟨wb, 0, none⟩ = some vl := by rw [arr_cell hblk 0]; exact hcs
  have HBK := hide hblk
  clear q2 hrow hblk hcs HW
  go_wp2_with (at_builtin; refine wpList_append_at _ rfl (.tmp 41) (.tmp 45) 27 rfl 52 i0 _ 2 16 Tryz.underlying27 hi hz0 hz1 hz2 rfl (by decide) _ _ _ rfl (HR.out.alloc _) ⟨w4.heap.size, 0, none⟩ 1 1 (by decide) [.pointer (some ⟨xb, 0, none⟩), .pointer (some ⟨yb, 0, none⟩)] rfl rfl (cells_new _ _ _) (by simp [Value.oneCell']) (by unfold maxLen; omega) (by omega) ?_)
  intro g c w5 hown hgrow hwhere hkeep
  have ho : Only (fun k => vl.ownBlock = some k) w4 w5 := ((Only.refl _ _).alloc _).grown hgrow (fun k _ hk => hk)
  have HQ3 := hide (HF.out xb yb w4 _ g c w5 HQ.out hown hgrow (by rw [World.size_alloc]; exact hwhere))
  have hne := own_apart_blk HR.out HBK.out (by decide)
  have hwb2 : wb < w5.heap.size := Nat.lt_of_lt_of_le hwb ho.size
  have cF2 : ∀ j, w5.frozen? ⟨wb, j, none⟩ = false := fun j => arr_frozen ((ho.block wb hwb hne).trans HBK.out) j
  have cV2 : w5.cell? ⟨wb, 0, none⟩ = some vl := by rw [ho.cell (p := ⟨wb, 0, none⟩) hwb hne]; exact cV
  clear hown hgrow hkeep hwhere ho HF
  go_wp2
  go_ret
  exact ⟨rfl, HQ3.out⟩

/-- New, by both sides. -/
theorem world_begins (ee aa bb src dst proto id off : Int) (more : Bool) (sport dport : Int) (dso : Option Addr) (dsn dsc : Nat) (ao : Option Addr) (n cap : Nat) (w0 w : World) (wb c t : Nat) (vl : Value) (G : Nat → Prop) (L : List Pr) (h : Wd w0 w wb c t vl G L) (ht : t ≤ 1800000000000) :
    Calls Tryz.prog 11 #[.pointer (some ⟨wb, 0, none⟩), .agg #[.int .i64 5, .int .i64 ee, .int .i64 aa, .int .i64 bb, .int .u16 src, .int .u16 dst, .int .u8 proto, .int .u16 id, .int .u8 off, .bool more, .int .u16 sport, .int .u16 dport, .slice dso dsn dsc, .slice ao n cap]] w fun e w' => e = .returned (.bool true) ∧ ∃ vl' L', Wd w0 w' wb c (t + 1) vl' G L' ∧ ((((1 ≤ aa ∧ aa ≤ 5) ∧ (1 ≤ bb ∧ bb ≤ 20)) ∧ L'.length = L.length + 1) ∨ (¬ ((1 ≤ aa ∧ aa ≤ 5) ∧ (1 ≤ bb ∧ bb ≤ 20)) ∧ L' = L)) := by
  have hbw : Below w.heap.size w (w.alloc (.cells #[.int .i64 5, .int .i64 ee, .int .i64 aa, .int .i64 bb, .int .u16 src, .int .u16 dst, .int .u8 proto, .int .u16 id, .int .u8 off, .bool more, .int .u16 sport, .int .u16 dport, .slice dso dsn dsc, .slice ao n cap] 42)) := (Below.refl _ _).alloc (Nat.le_refl _) _
  have h2 := h.below hbw
  have hbc := box_cell (w := w) (cs := #[.int .i64 5, .int .i64 ee, .int .i64 aa, .int .i64 bb, .int .u16 src, .int .u16 dst, .int .u8 proto, .int .u16 id, .int .u8 off, .bool more, .int .u16 sport, .int .u16 dport, .slice dso dsn dsc, .slice ao n cap]) (t := 42) (Below.refl _ _)
  have hsz : (w.alloc (.cells #[.int .i64 5, .int .i64 ee, .int .i64 aa, .int .i64 bb, .int .u16 src, .int .u16 dst, .int .u8 proto, .int .u16 id, .int .u8 off, .bool more, .int .u16 sport, .int .u16 dport, .slice dso dsn dsc, .slice ao n cap] 42)).heap.size = w.heap.size + 1 := by simp
  by_cases hk : (1 ≤ aa ∧ aa ≤ 5) ∧ (1 ≤ bb ∧ bb ≤ 20)
  · obtain ⟨N, hN⟩ := Int.eq_ofNat_of_zero_le (show 0 ≤ aa by omega)
    subst hN
    have hlen := h.len
    generalize hw2 : (w.alloc (.cells #[.int .i64 5, .int .i64 ee, .int .i64 (N : Int), .int .i64 bb, .int .u16 src, .int .u16 dst, .int .u8 proto, .int .u16 id, .int .u8 off, .bool more, .int .u16 sport, .int .u16 dport, .slice dso dsn dsc, .slice ao n cap] 42)) = w2 at *
    refine (begins_yes wb L.length vl (L.flatMap Pr.cells) ee (N : Int) bb src dst proto id off more sport dport dso dsn dsc ao n cap w
      (fun xb wz => ∃ F1, PrIs wz xb (Cl.new N bb) F1 ∧ (∀ k, F1 k → w2.heap.size ≤ k) ∧ Below w2.heap.size w2 wz)
      (fun xb yb wz => ∃ F1 F2, Tw wz xb yb (Cl.new N bb) (Cl.new N bb) F1 F2 ∧ (∀ k, F1 k ∨ F2 k → w2.heap.size ≤ k) ∧ Below w2.heap.size w2 wz)
      (fun w' => ∃ vl' L', Wd w0 w' wb c (t + 1) vl' G L' ∧ L'.length = L.length + 1) (by omega) (hide ?_) (hide ?_) (hide ?_) (hide ?_) (hide ?_)).mono ?_
    · rw [hw2]
      refine (new_ok N bb w2 (by omega) (by omega) (by omega) (by omega)).mono ?_
      rintro e w' ⟨xb, F, he, hp, hf, hb⟩
      exact ⟨xb, he, F, hp, hf, hb⟩
    · rintro xb wz ⟨F1, hp, hf, hb⟩
      refine (rnew_yes N bb wz hk.1 hk.2).mono ?_
      rintro e w' ⟨he, hR, hb'⟩
      refine ⟨wz.heap.size, he, F1, fun k => k = wz.heap.size, ⟨hp.below hb', ⟨_, _, _, _, _, _, hR⟩, fun k hk1 hk2 => by have := hp.flt k hk1; omega⟩, ?_, hb.trans (hb'.mono hb.size)⟩
      rintro k (hk1 | rfl)
      · exact hf k hk1
      · exact hb.size
    · rintro xb wz ⟨F1, hp, hf, hb⟩
      refine ⟨by have := hb.size; omega, fun j => ?_⟩
      rw [hb.cell (p := ⟨w.heap.size, j, none⟩) (by show w.heap.size < _; omega)]
      exact hbc j
    · rintro xb yb wz ⟨F1, F2, hT, hf, hb⟩
      have h3 := h2.below hb
      obtain ⟨_, _, _, _, _, _, _, _, _, _, _, _, hB⟩ := h3.book
      exact ⟨_, hB.blk, rfl, h3.row⟩
    · rintro xb yb wz o g cc w' ⟨F1, F2, hT, hf, hb⟩ hown hgrow hwhere
      have h3 := h2.below hb
      have ho : Only (fun k => vl.ownBlock = some k) wz w' := ((Only.refl _ _).alloc _).grown hgrow (fun k _ hk => hk)
      have hwb : wb < wz.heap.size := h3.book.flt.2 wb h3.book.flt.1
      have hnw : vl.ownBlock ≠ some wb := fun hv => (h.rg wb hv).1 h.book.flt.1
      have hgw : g ≠ wb := by
        rintro rfl
        rcases hwhere with h4 | h4
        · exact hnw h4
        · simp at h4; omega
      have hsz' : wz.heap.size ≤ (wz.alloc o).heap.size := by simp
      refine ⟨_, L ++ [⟨xb, yb, Cl.new N bb, F1, F2⟩], h2.add hb ⟨xb, yb, Cl.new N bb, F1, F2⟩ ⟨hT, good_new N bb hk.1.1 hk.1.2 hk.2, Nat.zero_le _, by show (0 : Int) ≤ _; omega⟩ hf (.slice (some ⟨g, 0, none⟩) (L.length + 1) cc) ?_ ?_ ?_ ?_, by simp⟩
      · exact (ho.mono (fun k _ hk => .inr hk)).setCell (fun _ => .inl rfl) _
      · intro cs tt hcs
        have h5 : w'.heap[wb]? = some (.cells cs tt (0, 0)) := (ho.block wb hwb hnw).trans hcs
        exact row_setCell h5 _
      · exact own_same hown (fun q hq => Below.heap_setCell _ _ _ _ (by simp only [Value.ownBlock, Option.some.injEq] at hq; subst hq; exact hgw))
      · intro q hq
        simp only [Value.ownBlock, Option.some.injEq] at hq
        subst hq
        rcases hwhere with h4 | h4
        · exact .inl h4
        · exact .inr (by omega)
    · rintro e w' ⟨he, vl', L', h4, h5⟩
      exact ⟨he, vl', L', h4, .inl ⟨hk, h5⟩⟩
  · have hk' : aa < 1 ∨ 5 < aa ∨ bb < 1 ∨ 20 < bb := by omega
    generalize hw2 : (w.alloc (.cells #[.int .i64 5, .int .i64 ee, .int .i64 aa, .int .i64 bb, .int .u16 src, .int .u16 dst, .int .u8 proto, .int .u16 id, .int .u8 off, .bool more, .int .u16 sport, .int .u16 dport, .slice dso dsn dsc, .slice ao n cap] 42)) = w2 at *
    refine (begins_no wb 0 0 ee aa bb src dst proto id off more sport dport dso dsn dsc ao n cap w 1 (by decide) (fun wz => wz = w2) (fun wz => wz = w2) (fun wz => wz = w2) (hide ?_) (hide ?_) (hide ?_) (hide ?_) (hide hw2)).mono ?_
    · rintro wz rfl
      exact new_bad aa bb wz hk'
    · rintro wz rfl
      exact rnew_no aa bb wz hk
    · rintro wz rfl
      exact hbc
    · rintro wz rfl
      exact hbc
    · rintro e w' ⟨he, rfl⟩
      exact ⟨he, vl, L, h2.mono (Nat.le_succ t), .inr ⟨hk, rfl⟩⟩

end Go.Proofs.YtajphdppmdoalaaGreat

namespace Go.Proofs.YtajphdppmdoalaaGreat
open Go.RowKit
set_option linter.unusedVariables false

theorem Col.keep {w w' : World} {G G' : Nat → Prop} {e se : TypeId} {s : Nat} {f : Int → Nat → List Value} {vr vk : Value} {US : List Value} {KS : List Int} {c c' : Nat} (h : Col w G e se s f vr vk US KS c) (hG : ∀ k, G k → G' k) (hc : c ≤ c') (kr : w.ownsRow 0 se 1 vr US.length US → w'.ownsRow 0 se 1 vr US.length US) (kk : w.ownsRow 0 3 1 vk US.length (KS.map (Value.int .i64)) → w'.ownsRow 0 3 1 vk US.length (KS.map (Value.int .i64))) (kp : ∀ (u : Value) (m : Nat) (ys : List Value), w.ownsRow 0 e s u m ys → w'.ownsRow 0 e s u m ys) : Col w' G' e se s f vr vk US KS c' := by
  refine ⟨kr h.row, kk h.ks, fun i u k hu hk => ?_, fun g hg => hG g (h.gr g hg), fun g hg => hG g (h.gk g hg)⟩
  obtain ⟨a1, a2, m, a3, a4⟩ := h.page i u k hu hk
  exact ⟨a1, by omega, m, kp _ _ _ a3, fun g hg => hG g (a4 g hg)⟩
/-- What is written: the book's own block, and two rows that grow. -/
theorem two_rows {w7 w8 wy : World} {wb i j : Nat} {vr vk x y : Value} {o1 o2 : Obj} (hwb : wb < w7.heap.size) (e1 : (w7.alloc o1).grownBy w8 vr.ownBlock) (e2 : ((w8.setCell ⟨wb, i, none⟩ x).drew.alloc o2).grownBy wy vk.ownBlock) :
    Only (fun k => k = wb ∨ vr.ownBlock = some k ∨ vk.ownBlock = some k) w7 (wy.setCell ⟨wb, j, none⟩ y) := by
  have h1 : Only (fun k => k = wb ∨ vr.ownBlock = some k ∨ vk.ownBlock = some k) w7 w8 := ((Only.refl _ w7).alloc o1).grown e1 (fun k _ hk => .inr (.inl hk))
  have h2 : Only (fun k => k = wb ∨ vr.ownBlock = some k ∨ vk.ownBlock = some k) w7 (w8.setCell ⟨wb, i, none⟩ x) := h1.setCell (fun _ => .inl rfl) x
  have h3 : Only (fun k => k = wb ∨ vr.ownBlock = some k ∨ vk.ownBlock = some k) w7 ((w8.setCell ⟨wb, i, none⟩ x).drew.alloc o2) := (h2.below ((Below.refl _ _).drew)).alloc o2
  exact (h3.grown e2 (fun k _ hk => .inr (.inr hk))).setCell (fun _ => .inl rfl) y
theorem own_lt0 {w : World} {k s : Nat} {e : TypeId} {u : Value} {ys : List Value} (h : w.ownsRow 0 e s u k ys) : ∀ g, u.ownBlock = some g → g < w.heap.size := fun g hg => (h.lt g hg).2

/-- Four lists of events are laid into the book. -/
theorem ev_done {w7 w8 wy : World} {wb c g8 c8 g10 c10 n0 n1 n2 n3 : Nat} {vl vbs ves vfs vkb vke vkf v0 v1 v2 v3 : Value} {G : Nat → Prop} {BS ES FS : List Value} {KB KE KF : List Int} {o1 o2 : Obj}
    (hK : Book w7 wb vl c G vbs ves vfs vkb vke vkf BS ES FS KB KE KF) (hcn : BS.length + (ES.length + 4) + FS.length ≤ 4 * c)
    (p0 : w7.ownsRow 0 60 3 v0 n0 (pgE c n0)) (p1 : w7.ownsRow 0 60 3 v1 n1 (pgE c n1)) (p2 : w7.ownsRow 0 60 3 v2 n2 (pgE c n2)) (p3 : w7.ownsRow 0 60 3 v3 n3 (pgE c n3))
    (a1 : w8.ownsRow 0 57 1 (.slice (some ⟨g8, 0, none⟩) (ES.length + 4) c8) (ES.length + 4) (ES ++ [v0, v1, v2, v3])) (e1 : (w7.alloc o1).grownBy w8 ves.ownBlock) (h8 : ves.ownBlock = some g8 ∨ w7.heap.size ≤ g8)
    (a2 : wy.ownsRow 0 3 1 (.slice (some ⟨g10, 0, none⟩) (ES.length + 4) c10) (ES.length + 4) (KE.map (Value.int .i64) ++ [.int .i64 c, .int .i64 c, .int .i64 c, .int .i64 c])) (e2 : ((w8.setCell ⟨wb, 2, none⟩ (.slice (some ⟨g8, 0, none⟩) (ES.length + 4) c8)).drew.alloc o2).grownBy wy vke.ownBlock) (h10 : vke.ownBlock = some g10 ∨ w8.heap.size ≤ g10) :
    ∃ G', Book (wy.setCell ⟨wb, 5, none⟩ (.slice (some ⟨g10, 0, none⟩) (ES.length + 4) c10)) wb vl c G' vbs (.slice (some ⟨g8, 0, none⟩) (ES.length + 4) c8) vfs vkb (.slice (some ⟨g10, 0, none⟩) (ES.length + 4) c10) vkf BS (ES ++ [v0, v1, v2, v3]) FS KB (KE ++ [(c : Int), c, c, c]) KF
      ∧ (∀ k, G' k → G k ∨ (∃ u, (u = v0 ∨ u = v1 ∨ u = v2 ∨ u = v3) ∧ u.ownBlock = some k) ∨ w7.heap.size ≤ k)
      ∧ Only G w7 (wy.setCell ⟨wb, 5, none⟩ (.slice (some ⟨g10, 0, none⟩) (ES.length + 4) c10)) := by
  have hwb : wb < w7.heap.size := lt_of_block hK.blk
  have hO := two_rows (i := 2) (j := 5) (x := .slice (some ⟨g8, 0, none⟩) (ES.length + 4) c8) (y := .slice (some ⟨g10, 0, none⟩) (ES.length + 4) c10) hwb e1 e2
  have stay : ∀ {u : Value} {e' : TypeId} {s' k : Nat} {ys : List Value}, w7.ownsRow 0 e' s' u k ys → e' ≠ 34 → e' ≠ 57 → (∀ g, u.ownBlock = some g → vke.ownBlock ≠ some g) → (wy.setCell ⟨wb, 5, none⟩ (.slice (some ⟨g10, 0, none⟩) (ES.length + 4) c10)).ownsRow 0 e' s' u k ys := by
    intro u e' s' k ys hu hn1 hn2 hd
    refine own_only hu hO (fun g hg hh => ?_)
    rcases hh with rfl | hh | hh
    · exact own_apart_blk hu hK.blk hn1 hg
    · exact own_apart' hu hK.ce.row hn2 hg hh
    · exact hd g hg hh
  have tag : ∀ {u : Value} {e' : TypeId} {s' k : Nat} {ys : List Value}, w7.ownsRow 0 e' s' u k ys → e' ≠ 3 → ∀ g, u.ownBlock = some g → vke.ownBlock ≠ some g := fun hu hne g hg => own_apart' hu hK.ce.ks hne hg
  have hw7a : (w7.alloc o1).heap[wb]? = _ := (Below.heap_alloc _ _ _ hwb).trans hK.blk
  have hw8 : w8.heap[wb]? = _ := (e1.block wb (lt_of_block hw7a) (fun hh => own_apart_blk hK.ce.row hK.blk (by decide) hh.symm)).trans hw7a
  have hw9 := row_setCell (j := 2) hw8 (.slice (some ⟨g8, 0, none⟩) (ES.length + 4) c8)
  have hw9b : ((w8.setCell ⟨wb, 2, none⟩ (.slice (some ⟨g8, 0, none⟩) (ES.length + 4) c8)).drew.alloc o2).heap[wb]? = _ := (Below.heap_alloc _ _ _ (lt_of_block hw9)).trans hw9
  have hwy : wy.heap[wb]? = _ := (e2.block wb (lt_of_block hw9b) (fun hh => own_apart_blk hK.ce.ks hK.blk (by decide) hh.symm)).trans hw9b
  have hwz := row_setCell (j := 5) hwy (.slice (some ⟨g10, 0, none⟩) (ES.length + 4) c10)
  have h8lt : g8 < w8.heap.size := (a1.lt g8 rfl).2
  have h10lt : g10 < wy.heap.size := (a2.lt g10 rfl).2
  have hsz8 : w7.heap.size ≤ w8.heap.size := by have := e1.size; simp at this; omega
  have a1' : (wy.setCell ⟨wb, 5, none⟩ (.slice (some ⟨g10, 0, none⟩) (ES.length + 4) c10)).ownsRow 0 57 1 (.slice (some ⟨g8, 0, none⟩) (ES.length + 4) c8) (ES.length + 4) (ES ++ [v0, v1, v2, v3]) := by
    have b1 := own_set' (j := 2) a1 hw8 (by decide) (.slice (some ⟨g8, 0, none⟩) (ES.length + 4) c8)
    have b2 : ((w8.setCell ⟨wb, 2, none⟩ (.slice (some ⟨g8, 0, none⟩) (ES.length + 4) c8)).drew.alloc o2).ownsRow 0 57 1 (.slice (some ⟨g8, 0, none⟩) (ES.length + 4) c8) (ES.length + 4) (ES ++ [v0, v1, v2, v3]) := World.ownsRow.alloc (w := (w8.setCell ⟨wb, 2, none⟩ (.slice (some ⟨g8, 0, none⟩) (ES.length + 4) c8)).drew) b1 o2
    have b3 := own_only b2 (Only.of_grown e2) (fun g hg hh => ?_)
    · exact own_set' (j := 5) b3 hwy (by decide) _
    · simp only [Value.ownBlock, Option.some.injEq] at hg
      subst hg
      have h7 := own_tag' hK.ce.ks hh
      obtain ⟨cur, hcur⟩ := h7
      rcases h8 with h8 | h8
      · exact own_apart' hK.ce.row hK.ce.ks (by decide) h8 hh
      · have := lt_of_block hcur
        omega
  have a2' := own_set' (j := 5) a2 hwy (by decide) (.slice (some ⟨g10, 0, none⟩) (ES.length + 4) c10)
  refine ⟨fun k => G k ∨ (∃ u, (u = v0 ∨ u = v1 ∨ u = v2 ∨ u = v3) ∧ u.ownBlock = some k) ∨ k = g8 ∨ k = g10, ⟨?_, ?_, ?_, ?_, ?_, hK.dbf, ?_, .inl hK.gw, ?_, ?_, ?_⟩, ?_, ?_⟩
  · simpa using hwz
  · exact hK.cb.keep (fun k hk => .inl hk) (Nat.le_refl _) (fun h => stay h (by decide) (by decide) (tag h (by decide))) (fun h => stay h (by decide) (by decide) hK.dbe) (fun u m ys h => stay h (by decide) (by decide) (tag h (by decide)))
  · exact hK.ce.add hK.len.2.1 (fun k hk => .inl hk) (fun u m ys h => stay h (by decide) (by decide) (tag h (by decide))) v0 v1 v2 v3 n0 n1 n2 n3 c (by omega) (Int.le_refl _) p0 p1 p2 p3 (fun u hu g hg => .inr (.inl ⟨u, hu, hg⟩)) a1' a2' (fun g hg => by simp only [Value.ownBlock, Option.some.injEq] at hg; exact .inr (.inr (.inl hg.symm))) (fun g hg => by simp only [Value.ownBlock, Option.some.injEq] at hg; exact .inr (.inr (.inr hg.symm)))
  · exact hK.cf.keep (fun k hk => .inl hk) (Nat.le_refl _) (fun h => stay h (by decide) (by decide) (tag h (by decide))) (fun h => stay h (by decide) (by decide) (fun g hg hh => hK.dfe g hh hg)) (fun u m ys h => stay h (by decide) (by decide) (tag h (by decide)))
  · intro g hg hh
    simp only [Value.ownBlock, Option.some.injEq] at hh
    subst hh
    rcases h10 with h10 | h10
    · exact hK.dbe _ hg h10
    · have := own_lt0 hK.cb.ks _ hg
      omega
  · intro g hg hh
    simp only [Value.ownBlock, Option.some.injEq] at hg
    subst hg
    rcases h10 with h10 | h10
    · exact hK.dfe _ h10 hh
    · have := own_lt0 hK.cf.ks _ hh
      omega
  · have hsz := hO.size
    have hszy : wy.heap.size ≤ (wy.setCell ⟨wb, 5, none⟩ (.slice (some ⟨g10, 0, none⟩) (ES.length + 4) c10)).heap.size := by simp
    have hsz9 : w8.heap.size ≤ wy.heap.size := by have := e2.size; simp [World.drew] at this; omega
    rintro k (hk | ⟨u, hu, hk⟩ | rfl | rfl)
    · exact Nat.lt_of_lt_of_le (hK.flt k hk) hsz
    · rcases hu with rfl | rfl | rfl | rfl
      · exact Nat.lt_of_lt_of_le (own_lt0 p0 k hk) hsz
      · exact Nat.lt_of_lt_of_le (own_lt0 p1 k hk) hsz
      · exact Nat.lt_of_lt_of_le (own_lt0 p2 k hk) hsz
      · exact Nat.lt_of_lt_of_le (own_lt0 p3 k hk) hsz
    · omega
    · omega
  · refine ⟨hK.len.1, ?_, hK.len.2.2⟩
    have := hK.len.2.1
    simp
    omega
  · simp
    omega
  · rintro k (hk | hk | rfl | rfl)
    · exact .inl hk
    · exact .inr (.inl hk)
    · rcases h8 with h8 | h8
      · exact .inl (hK.ce.gr _ h8)
      · exact .inr (.inr h8)
    · rcases h10 with h10 | h10
      · exact .inl (hK.ce.gk _ h10)
      · exact .inr (.inr (by omega))
  · exact hO.mono (fun k _ hk => by
      rcases hk with rfl | hk | hk
      · exact hK.gw
      · exact hK.ce.gr k hk
      · exact hK.ce.gk k hk)

end Go.Proofs.YtajphdppmdoalaaGreat
