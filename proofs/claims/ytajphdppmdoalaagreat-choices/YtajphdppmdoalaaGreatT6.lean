import Derived.Test.YtajphdppmdoalaaGreatT5
namespace Go.Proofs.YtajphdppmdoalaaGreat
open Go.RowKit
set_option linter.unusedVariables false

theorem grown_drewN {a b : World} {r : Option Nat} (h : a.grownBy b r) (m : Nat) : a.grownBy (b.drewN m) r := grown_trans h ⟨rfl, rfl, rfl, Nat.le_refl _, fun _ _ _ => rfl⟩
theorem grown_set {w : World} {g j : Nat} {x : Value} : w.grownBy (w.setCell ⟨g, j, none⟩ x) (some g) :=
  ⟨rfl, rfl, rfl, by simp, fun k hk hne => Below.heap_setCell _ _ _ _ (by intro h; exact hne (by simp [h]))⟩

set_option maxRecDepth 100000 in
set_option maxHeartbeats 1600000 in
theorem clean_any (ga : Nat) (ao : Option Addr) (n cap : Nat) (zs : List Int) (C : Array Value) (w : World) (hl : zs.length = n) (hd : Has w ao zs) (hn : n ≤ 140737488351232) (hlt0 : ∀ b, ao = some b → zs ≠ [] → b.block < ga)
    (hga : w.heap[ga]? = some (.cells C 5 (0, 0))) (hs : C.size = n + 8) (hp : ∀ j, j < n → C[j]? = some (.int .u8 (zs.getD j 0))) (hq : ∀ j, n ≤ j → j < n + 8 → C[j]? = some (.int .u8 77)) :
    Calls Tryz.prog 29 #[.slice (some ⟨ga, 0, none⟩) (n + 8) (n + 8), .slice ao n cap] w fun e w' => e = .returned (.bool true) ∧ w.grownBy w' (some ga) := by
  have HF := hide (And.intro hl (And.intro hd (And.intro hlt0 (And.intro hs (And.intro hp hq)))))
  have HGA := hide hga
  clear hl hd hlt0 hga hs hp hq
  go_enter Tryz.func29, Tryz.ntmps29
  go_wp2_with fail
  go_loopw [5, 6] (fun s i wr => ∃ (q : Nat) (C' : Array Value), q ≤ n + 8 ∧ i = .int .i64 q ∧ s = .bool true ∧ Hid (wr.heap[ga]? = some (.cells C' 5 (0, 0))) ∧ Hid (C'.size = n + 8 ∧ ∀ j, q ≤ j → C'[j]? = C[j]?) ∧ Hid (w.grownBy wr (some ga)))
    (fun _ i _ => n + 8 - (intOf i).toNat)
  case atStart => exact ⟨0, C, by omega, rfl, rfl, HGA.out, ⟨HF.out.2.2.2.1, fun _ _ => rfl⟩, World.grownBy.refl _ _⟩
  case round =>
    obtain ⟨q, C', hq, rfl, rfl, HG, HC, HW⟩ := hrel
    by_cases hlt : q < n + 8
    · have rel : ∀ (x : Value) (m : Nat), ∃ (q' : Nat) (C'' : Array Value), q' ≤ n + 8 ∧ Value.int .i64 ((q : Int) + 1) = .int .i64 q' ∧ Value.bool true = .bool true ∧ Hid (((wr.setCell ⟨ga, q, none⟩ (.int .u8 99)).drewN m).heap[ga]? = some (.cells C'' 5 (0, 0))) ∧ Hid (C''.size = n + 8 ∧ ∀ j, q' ≤ j → C''[j]? = C[j]?) ∧ Hid (w.grownBy ((wr.setCell ⟨ga, q, none⟩ (.int .u8 99)).drewN m) (some ga)) := by
        intro x m
        refine ⟨q + 1, C'.setIfInBounds q (.int .u8 99), by omega, by go_num, rfl, row_setCell HG.out _, ⟨?_, ?_⟩, grown_drewN (grown_trans HW.out grown_set) m⟩
        · rw [Array.size_setIfInBounds]; exact HC.out.1
        · intro j hj
          rw [Array.getElem?_setIfInBounds, if_neg (by omega)]
          exact HC.out.2 j (by omega)
      have REL := hide rel
      clear rel
      have f0 := arr_frozen HG.out q
      by_cases hqn : q < n
      · have c0 : wr.cell? ⟨ga, q, none⟩ = some (.int .u8 (zs.getD q 0)) := by rw [arr_cell HG.out, HC.out.2 q (Nat.le_refl _)]; exact HF.out.2.2.2.2.1 q hqn
        obtain ⟨hl, hd, hlt0, _⟩ := HF.out
        obtain ⟨b, o, rfl, hbz, hbc⟩ := hd.2 (by intro h; subst h; simp at hl; omega)
        have hbg : b < ga := hlt0 _ rfl (by intro h; subst h; simp at hl; omega)
        have c1 : wr.cell? ⟨b, o + q, none⟩ = some (.int .u8 (zs.getD q 0)) := HW.out.cell (hbc q (by omega)) (by simp; omega)
        generalize zs.getD q 0 = z at c0 c1
        have i1 : (q : Int) < (n : Int) := by omega
        have i2 : (q : Int) < (n : Int) + 8 := by omega
        clear hd hlt0 hbc hl
        go_wp2_with fail
        go_quiet (fail)
        go_wp2
        go_roundw
        case rel =>
          obtain ⟨q', C'', h1, h2, _, h3, h4, h5⟩ := REL.out (.int .u8 0) nq
          exact ⟨q', C'', h1, h2, rfl, h3, h4, h5⟩
        case measure => simp [intOf]; omega
      · have c0 : wr.cell? ⟨ga, q, none⟩ = some (.int .u8 77) := by rw [arr_cell HG.out, HC.out.2 q (Nat.le_refl _)]; exact HF.out.2.2.2.2.2 q (by omega) hlt
        go_wp2
        go_roundw
        case rel =>
          obtain ⟨q', C'', h1, h2, _, h3, h4, h5⟩ := REL.out (.int .u8 0) 0
          exact ⟨q', C'', h1, h2, rfl, h3, h4, h5⟩
        case measure => simp [intOf]; omega
    · go_wp2
      go_ret
      exact ⟨rfl, HW.out⟩

end Go.Proofs.YtajphdppmdoalaaGreat
