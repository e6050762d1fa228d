import Derived.Test.YtajphdppmdoalaaGreatZPDEtoBD
import Derived.Test.YtajphdppmdoalaaGreatZPBBtoBB
import Derived.Test.YtajphdppmdoalaaGreatZPJ7toU1
namespace Go.Proofs.YtajphdppmdoalaaGreat
open Go.RowKit
set_option linter.unusedVariables false

end Go.Proofs.YtajphdppmdoalaaGreat

namespace Go.Proofs.YtajphdppmdoalaaGreat
open Go.RowKit
set_option linter.unusedVariables false

end Go.Proofs.YtajphdppmdoalaaGreat

namespace Go.Proofs.YtajphdppmdoalaaGreat
open Go.RowKit
set_option linter.unusedVariables false

/-- Four lists of flights are laid into the book. -/
theorem fl_done {w7 w8 wy : World} {wb c g8 c8 g10 c10 n0 n1 n2 n3 : Nat} {vl vbs vfs ves vkb vkf vke v0 v1 v2 v3 : Value} {G : Nat → Prop} {BS FS ES : List Value} {KB KF KE : List Int} {o1 o2 : Obj}
    (hK : Book w7 wb vl c G vbs ves vfs vkb vke vkf BS ES FS KB KE KF) (hcn : BS.length + ES.length + (FS.length + 4) ≤ 4 * c)
    (p0 : w7.ownsRow 0 64 3 v0 n0 (pgF c n0)) (p1 : w7.ownsRow 0 64 3 v1 n1 (pgF c n1)) (p2 : w7.ownsRow 0 64 3 v2 n2 (pgF c n2)) (p3 : w7.ownsRow 0 64 3 v3 n3 (pgF c n3))
    (a1 : w8.ownsRow 0 62 1 (.slice (some ⟨g8, 0, none⟩) (FS.length + 4) c8) (FS.length + 4) (FS ++ [v0, v1, v2, v3])) (e1 : (w7.alloc o1).grownBy w8 vfs.ownBlock) (h8 : vfs.ownBlock = some g8 ∨ w7.heap.size ≤ g8)
    (a2 : wy.ownsRow 0 3 1 (.slice (some ⟨g10, 0, none⟩) (FS.length + 4) c10) (FS.length + 4) (KF.map (Value.int .i64) ++ [.int .i64 c, .int .i64 c, .int .i64 c, .int .i64 c])) (e2 : ((w8.setCell ⟨wb, 3, none⟩ (.slice (some ⟨g8, 0, none⟩) (FS.length + 4) c8)).drew.alloc o2).grownBy wy vkf.ownBlock) (h10 : vkf.ownBlock = some g10 ∨ w8.heap.size ≤ g10) :
    ∃ G', Book (wy.setCell ⟨wb, 6, none⟩ (.slice (some ⟨g10, 0, none⟩) (FS.length + 4) c10)) wb vl c G' vbs ves (.slice (some ⟨g8, 0, none⟩) (FS.length + 4) c8) vkb vke (.slice (some ⟨g10, 0, none⟩) (FS.length + 4) c10) BS ES (FS ++ [v0, v1, v2, v3]) KB KE (KF ++ [(c : Int), c, c, c])
      ∧ (∀ k, G' k → G k ∨ (∃ u, (u = v0 ∨ u = v1 ∨ u = v2 ∨ u = v3) ∧ u.ownBlock = some k) ∨ w7.heap.size ≤ k)
      ∧ Only G w7 (wy.setCell ⟨wb, 6, none⟩ (.slice (some ⟨g10, 0, none⟩) (FS.length + 4) c10)) := by
  have hwb : wb < w7.heap.size := lt_of_block hK.blk
  have hO := two_rows (i := 3) (j := 6) (x := .slice (some ⟨g8, 0, none⟩) (FS.length + 4) c8) (y := .slice (some ⟨g10, 0, none⟩) (FS.length + 4) c10) hwb e1 e2
  have stay : ∀ {u : Value} {e' : TypeId} {s' k : Nat} {ys : List Value}, w7.ownsRow 0 e' s' u k ys → e' ≠ 34 → e' ≠ 62 → (∀ g, u.ownBlock = some g → vkf.ownBlock ≠ some g) → (wy.setCell ⟨wb, 6, none⟩ (.slice (some ⟨g10, 0, none⟩) (FS.length + 4) c10)).ownsRow 0 e' s' u k ys := by
    intro u e' s' k ys hu hn1 hn2 hd
    refine own_only hu hO (fun g hg hh => ?_)
    rcases hh with rfl | hh | hh
    · exact own_apart_blk hu hK.blk hn1 hg
    · exact own_apart' hu hK.cf.row hn2 hg hh
    · exact hd g hg hh
  have tag : ∀ {u : Value} {e' : TypeId} {s' k : Nat} {ys : List Value}, w7.ownsRow 0 e' s' u k ys → e' ≠ 3 → ∀ g, u.ownBlock = some g → vkf.ownBlock ≠ some g := fun hu hne g hg => own_apart' hu hK.cf.ks hne hg
  have hw7a : (w7.alloc o1).heap[wb]? = _ := (Below.heap_alloc _ _ _ hwb).trans hK.blk
  have hw8 : w8.heap[wb]? = _ := (e1.block wb (lt_of_block hw7a) (fun hh => own_apart_blk hK.cf.row hK.blk (by decide) hh.symm)).trans hw7a
  have hw9 := row_setCell (j := 3) hw8 (.slice (some ⟨g8, 0, none⟩) (FS.length + 4) c8)
  have hw9b : ((w8.setCell ⟨wb, 3, none⟩ (.slice (some ⟨g8, 0, none⟩) (FS.length + 4) c8)).drew.alloc o2).heap[wb]? = _ := (Below.heap_alloc _ _ _ (lt_of_block hw9)).trans hw9
  have hwy : wy.heap[wb]? = _ := (e2.block wb (lt_of_block hw9b) (fun hh => own_apart_blk hK.cf.ks hK.blk (by decide) hh.symm)).trans hw9b
  have hwz := row_setCell (j := 6) hwy (.slice (some ⟨g10, 0, none⟩) (FS.length + 4) c10)
  have h8lt : g8 < w8.heap.size := (a1.lt g8 rfl).2
  have h10lt : g10 < wy.heap.size := (a2.lt g10 rfl).2
  have hsz8 : w7.heap.size ≤ w8.heap.size := by have := e1.size; simp at this; omega
  have a1' : (wy.setCell ⟨wb, 6, none⟩ (.slice (some ⟨g10, 0, none⟩) (FS.length + 4) c10)).ownsRow 0 62 1 (.slice (some ⟨g8, 0, none⟩) (FS.length + 4) c8) (FS.length + 4) (FS ++ [v0, v1, v2, v3]) := by
    have b1 := own_set' (j := 3) a1 hw8 (by decide) (.slice (some ⟨g8, 0, none⟩) (FS.length + 4) c8)
    have b2 : ((w8.setCell ⟨wb, 3, none⟩ (.slice (some ⟨g8, 0, none⟩) (FS.length + 4) c8)).drew.alloc o2).ownsRow 0 62 1 (.slice (some ⟨g8, 0, none⟩) (FS.length + 4) c8) (FS.length + 4) (FS ++ [v0, v1, v2, v3]) := World.ownsRow.alloc (w := (w8.setCell ⟨wb, 3, none⟩ (.slice (some ⟨g8, 0, none⟩) (FS.length + 4) c8)).drew) b1 o2
    have b3 := own_only b2 (Only.of_grown e2) (fun g hg hh => ?_)
    · exact own_set' (j := 6) b3 hwy (by decide) _
    · simp only [Value.ownBlock, Option.some.injEq] at hg
      subst hg
      have h7 := own_tag' hK.cf.ks hh
      obtain ⟨cur, hcur⟩ := h7
      rcases h8 with h8 | h8
      · exact own_apart' hK.cf.row hK.cf.ks (by decide) h8 hh
      · have := lt_of_block hcur
        omega
  have a2' := own_set' (j := 6) a2 hwy (by decide) (.slice (some ⟨g10, 0, none⟩) (FS.length + 4) c10)
  refine ⟨fun k => G k ∨ (∃ u, (u = v0 ∨ u = v1 ∨ u = v2 ∨ u = v3) ∧ u.ownBlock = some k) ∨ k = g8 ∨ k = g10, ⟨?_, ?_, ?_, ?_, hK.dbe, ?_, ?_, .inl hK.gw, ?_, ?_, ?_⟩, ?_, ?_⟩
  · simpa using hwz
  · exact hK.cb.keep (fun k hk => .inl hk) (Nat.le_refl _) (fun h => stay h (by decide) (by decide) (tag h (by decide))) (fun h => stay h (by decide) (by decide) hK.dbf) (fun u m ys h => stay h (by decide) (by decide) (tag h (by decide)))
  · exact hK.ce.keep (fun k hk => .inl hk) (Nat.le_refl _) (fun h => stay h (by decide) (by decide) (tag h (by decide))) (fun h => stay h (by decide) (by decide) hK.dfe) (fun u m ys h => stay h (by decide) (by decide) (tag h (by decide)))
  · exact hK.cf.add hK.len.2.2 (fun k hk => .inl hk) (fun u m ys h => stay h (by decide) (by decide) (tag h (by decide))) v0 v1 v2 v3 n0 n1 n2 n3 c (by omega) (Int.le_refl _) p0 p1 p2 p3 (fun u hu g hg => .inr (.inl ⟨u, hu, hg⟩)) a1' a2' (fun g hg => by simp only [Value.ownBlock, Option.some.injEq] at hg; exact .inr (.inr (.inl hg.symm))) (fun g hg => by simp only [Value.ownBlock, Option.some.injEq] at hg; exact .inr (.inr (.inr hg.symm)))
  · intro g hg hh
    simp only [Value.ownBlock, Option.some.injEq] at hh
    subst hh
    rcases h10 with h10 | h10
    · exact hK.dbf _ hg h10
    · have := own_lt0 hK.cb.ks _ hg
      omega
  · intro g hg hh
    simp only [Value.ownBlock, Option.some.injEq] at hh
    subst hh
    rcases h10 with h10 | h10
    · exact hK.dfe _ hg h10
    · have := own_lt0 hK.ce.ks _ hg
      omega
  · have hsz := hO.size
    have hszy : wy.heap.size ≤ (wy.setCell ⟨wb, 6, none⟩ (.slice (some ⟨g10, 0, none⟩) (FS.length + 4) c10)).heap.size := by simp
    have hsz9 : w8.heap.size ≤ wy.heap.size := by have := e2.size; simp [World.drew] at this; omega
    rintro k (hk | ⟨u, hu, hk⟩ | rfl | rfl)
    · exact Nat.lt_of_lt_of_le (hK.flt k hk) hsz
    · rcases hu with rfl | rfl | rfl | rfl
      · exact Nat.lt_of_lt_of_le (own_lt0 p0 k hk) hsz
      · exact Nat.lt_of_lt_of_le (own_lt0 p1 k hk) hsz
      · exact Nat.lt_of_lt_of_le (own_lt0 p2 k hk) hsz
      · exact Nat.lt_of_lt_of_le (own_lt0 p3 k hk) hsz
    · omega
    · omega
  · refine ⟨hK.len.1, hK.len.2.1, ?_⟩
    have := hK.len.2.2
    simp
    omega
  · simp
    omega
  · rintro k (hk | hk | rfl | rfl)
    · exact .inl hk
    · exact .inr (.inl hk)
    · rcases h8 with h8 | h8
      · exact .inl (hK.cf.gr _ h8)
      · exact .inr (.inr h8)
    · rcases h10 with h10 | h10
      · exact .inl (hK.cf.gk _ h10)
      · exact .inr (.inr (by omega))
  · exact hO.mono (fun k _ hk => by
      rcases hk with rfl | hk | hk
      · exact hK.gw
      · exact hK.cf.gr k hk
      · exact hK.cf.gk k hk)

end Go.Proofs.YtajphdppmdoalaaGreat
