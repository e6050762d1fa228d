import Derived.Test.YtajphdppmdoalaaGreatJD
import Derived.Test.YtajphdppmdoalaaGreatT6
import Derived.Test.YtajphdppmdoalaaGreatR0
namespace Go.Proofs.YtajphdppmdoalaaGreat
open Go.RowKit
set_option linter.unusedVariables false

set_option maxRecDepth 100000 in
set_option maxHeartbeats 3200000 in
theorem wch_so (lo hi wb c : Nat) (vl : Value) (ee aa bb src dst proto id off : Int) (more : Bool) (sport dport : Int) (dso : Option Addr) (dsn dsc : Nat) (ad : Addr) (n cap : Nat) (zs : List Int) (w : World) (hB : Bk w lo hi wb vl c) (hzs : zs.length = n) (hd : Has w (some ad) zs) (hzb : ∀ z ∈ zs, 0 ≤ z ∧ z ≤ 255) (hn : n ≤ 140737488351232) (hlh : lo ≤ hi) (hc : (4 * c + 4) * 24 ≤ 140737488355328) (hte : tE zs = 0) :
    Calls Tryz.prog 18 #[.pointer (some ⟨wb, 0, none⟩), .agg #[.int .i64 4, .int .i64 ee, .int .i64 aa, .int .i64 bb, .int .u16 src, .int .u16 dst, .int .u8 proto, .int .u16 id, .int .u8 off, .bool more, .int .u16 sport, .int .u16 dport, .slice dso dsn dsc, .slice (some ad) n cap]] w fun e w' => e = .returned (.bool true) ∧ Bk w' lo w'.heap.size wb vl (c + 1) ∧ Below lo w w' := by
  have HBk := hide hB
  have hhz : hi ≤ w.heap.size := by obtain ⟨_, _, _, _, _, _, h, _⟩ := hB; exact h
  clear hB
  have HD := hide hd
  have HZB := hide hzb
  clear hd hzb
  have HGV : Hid (∀ w1, Has w1 (some ad) zs → Calls Tryz.prog 26 #[.slice (some ad) n cap] w1 fun e w' => e = .returned (.slice (some ⟨w1.heap.size, 0, none⟩) (n + 8) (n + 8)) ∧ ∃ C : Array Value, w' = w1.alloc (.cells C 5) ∧ C.size = n + 8 ∧ (∀ j, j < n → C[j]? = some (.int .u8 (zs.getD j 0))) ∧ ∀ j, n ≤ j → j < n + 8 → C[j]? = some (.int .u8 77)) := fun w1 h => given_any (some ad) n cap zs w1 hzs h hn
  have heq := fun wx => Lib.run_eql_slice_nil (P := Tryz.prog) wx 38 5 (some ad) n cap 0 0 Tryz.underlying38
  go_enter Tryz.func18, Tryz.ntmps18
  go_wp2_with fail
  refine (HGV.out _ (HD.out.below ((Below.refl _ _).alloc (Nat.le_refl _) _))).mono ?_
  rintro e w1 ⟨rfl, C, rfl, hCs, hCp, hCq⟩
  have HC := hide (And.intro hCs (And.intro hCp hCq))
  clear hCs hCp hCq HGV
  go_wp2_with fail
  generalize hW2 : ((w.alloc (.cells #[.int .i64 4, .int .i64 ee, .int .i64 aa, .int .i64 bb, .int .u16 src, .int .u16 dst, .int .u8 proto, .int .u16 id, .int .u8 off, .bool more, .int .u16 sport, .int .u16 dport, .slice dso dsn dsc, .slice (some ad) n cap] 42)).alloc (.cells C 5)) = w2
  have HB2 : Hid (Below (w.heap.size + 1) (w.alloc (.cells #[.int .i64 4, .int .i64 ee, .int .i64 aa, .int .i64 bb, .int .u16 src, .int .u16 dst, .int .u8 proto, .int .u16 id, .int .u8 off, .bool more, .int .u16 sport, .int .u16 dport, .slice dso dsn dsc, .slice (some ad) n cap] 42)) w2) := by rw [← hW2]; exact (Below.refl _ _).alloc (by simp) _
  have HG2 : Hid (w2.heap[w.heap.size + 1]? = some (.cells C 5 (0, 0))) := by
    rw [← hW2]
    have h := heap_alloc_new (w.alloc (.cells #[.int .i64 4, .int .i64 ee, .int .i64 aa, .int .i64 bb, .int .u16 src, .int .u16 dst, .int .u8 proto, .int .u16 id, .int .u8 off, .bool more, .int .u16 sport, .int .u16 dport, .slice dso dsn dsc, .slice (some ad) n cap] 42)) (.cells C 5)
    rw [World.size_alloc] at h
    exact h
  have hz2 : w2.heap.size = w.heap.size + 2 := by rw [← hW2]; simp
  clear hW2 heq
  have HPD : Hid (Has w2 (some ⟨w.heap.size + 1, 0, none⟩) zs) := has_of_row HG2.out (fun j hj => HC.out.2.1 j (by omega))
  refine (ftable_any (some ⟨w.heap.size + 1, 0, none⟩) n (n + 8) zs w2 hzs HPD.out (by omega) HZB.out).mono ?_
  intro e w3 h3
  obtain ⟨g3, c3, rfl, ho3, hb3⟩ := TabPost.ok h3 hte
  have HO3 := hide ho3
  clear h3 ho3
  have HB3 := hide hb3
  have hz3 : w2.heap.size ≤ w3.heap.size := hb3.size
  have HBx3 : Hid (Below (w.heap.size + 1) (w.alloc (.cells #[.int .i64 4, .int .i64 ee, .int .i64 aa, .int .i64 bb, .int .u16 src, .int .u16 dst, .int .u8 proto, .int .u16 id, .int .u8 off, .bool more, .int .u16 sport, .int .u16 dport, .slice dso dsn dsc, .slice (some ad) n cap] 42)) w3) := HB2.out.trans (HB3.out.mono (by omega))
  have cc := box_cell HBx3.out
  have hzw : w.heap.size < w3.heap.size := by omega
  clear hb3
  go_wp2_with fail
  refine (rtable_any (some ad) n cap zs w3 hzs (HD.out.below (below_old HBx3.out)) (by omega) HZB.out).mono ?_
  intro e w4 h4
  obtain ⟨g4, c4, rfl, ho4, hb4⟩ := TabPost.ok h4 hte
  have HO4 := hide ho4
  clear h4 ho4
  have HB4 := hide hb4
  have hz4 : w3.heap.size ≤ w4.heap.size := hb4.size
  have HBx4 : Hid (Below (w.heap.size + 1) (w.alloc (.cells #[.int .i64 4, .int .i64 ee, .int .i64 aa, .int .i64 bb, .int .u16 src, .int .u16 dst, .int .u8 proto, .int .u16 id, .int .u8 off, .bool more, .int .u16 sport, .int .u16 dport, .slice dso dsn dsc, .slice (some ad) n cap] 42)) w4) := HBx3.out.trans (HB4.out.mono (by omega))
  have HG4 : Hid (w4.heap[w.heap.size + 1]? = some (.cells C 5 (0, 0))) := (HB4.out.block _ (by omega)).trans ((HB3.out.block _ (by omega)).trans HG2.out)
  clear cc hb4 hzw
  have cc := box_cell HBx4.out
  have hzw : w.heap.size < w4.heap.size := by omega
  go_wp2_with fail
  refine (clean_any (w.heap.size + 1) (some ad) n cap zs C w4 hzs (HD.out.below (below_old HBx4.out)) hn (fun b hb hz => by obtain ⟨b2, o2, h1, h2, _⟩ := HD.out.2 hz; rw [h1] at hb; simp only [Option.some.injEq] at hb; subst hb; show b2 < _; omega) HG4.out HC.out.1 HC.out.2.1 HC.out.2.2).mono ?_
  rintro e w5 ⟨rfl, hg5⟩
  have HG5 := hide hg5
  have hz5 : w4.heap.size ≤ w5.heap.size := hg5.size
  have HBw5 : Hid (Below w.heap.size w w5) := (below_old HBx4.out).grown hg5 (by omega) (by simp)
  clear cc hzw hg5
  have HO3' : Hid (w5.ownsRow w2.heap.size 5 1 (.slice (some ⟨g3, 0, none⟩) 31 c3) 31 ((tbl zs).map (Value.int .u8))) := World.ownsRow.kept (own_below HO3.out (own_lt HO3.out) HB4.out) HG5.out (.inr (by intro h; have := (HO3.out.lt _ h).1; omega))
  have HO4' : Hid (w5.ownsRow w3.heap.size 5 1 (.slice (some ⟨g4, 0, none⟩) 31 c4) 31 ((tbl zs).map (Value.int .u8))) := World.ownsRow.kept HO4.out HG5.out (.inr (by intro h; have := (HO4.out.lt _ h).1; omega))
  clear HO3 HO4
  have hlT := tbl_len zs
  generalize hT : tbl zs = T
  rw [hT] at HO3' HO4' hlT
  clear hT hte
  have hcA := conv_has (w := w5) (owns_has HO3'.out).1 c3
  have hcB := conv_has (w := w5) (owns_has HO4'.out).1 c4
  rw [hlT] at hcA hcB
  clear hlT
  generalize strOfNums T = ss at *
  go_wp2_with fail
  refine (bytes_some lo w2.heap.size wb c g3 31 c3 vl T w5 ((HBk.out.below (HBw5.out.mono hhz)).mono (by omega) (by omega)) (by omega) HO3'.out (by decide) hc).mono ?_
  rintro e w6 ⟨rfl, hB6, hb6⟩
  have HB6 := hide hB6
  have HBe : Hid (Below lo w w6) := (HBw5.out.mono (by omega)).trans hb6
  clear hB6 hb6 hcA hcB
  go_wp2
  go_ret
  exact ⟨by simp, HB6.out, HBe.out⟩

set_option maxRecDepth 100000 in
set_option maxHeartbeats 3200000 in
theorem wch_se (lo hi wb c : Nat) (vl : Value) (ee aa bb src dst proto id off : Int) (more : Bool) (sport dport : Int) (dso : Option Addr) (dsn dsc : Nat) (ad : Addr) (n cap : Nat) (zs : List Int) (w : World) (hB : Bk w lo hi wb vl c) (hzs : zs.length = n) (hd : Has w (some ad) zs) (hzb : ∀ z ∈ zs, 0 ≤ z ∧ z ≤ 255) (hn : n ≤ 140737488351232) (hlh : lo ≤ hi) (hc : (4 * c + 4) * 24 ≤ 140737488355328) (hte : tE zs ≠ 0) :
    Calls Tryz.prog 18 #[.pointer (some ⟨wb, 0, none⟩), .agg #[.int .i64 4, .int .i64 ee, .int .i64 aa, .int .i64 bb, .int .u16 src, .int .u16 dst, .int .u8 proto, .int .u16 id, .int .u8 off, .bool more, .int .u16 sport, .int .u16 dport, .slice dso dsn dsc, .slice (some ad) n cap]] w fun e w' => e = .returned (.bool true) ∧ Bk w' lo w'.heap.size wb vl (c + 1) ∧ Below lo w w' := by
  have HBk := hide hB
  have hhz : hi ≤ w.heap.size := by obtain ⟨_, _, _, _, _, _, h, _⟩ := hB; exact h
  clear hB
  have HD := hide hd
  have HZB := hide hzb
  clear hd hzb
  have HGV : Hid (∀ w1, Has w1 (some ad) zs → Calls Tryz.prog 26 #[.slice (some ad) n cap] w1 fun e w' => e = .returned (.slice (some ⟨w1.heap.size, 0, none⟩) (n + 8) (n + 8)) ∧ ∃ C : Array Value, w' = w1.alloc (.cells C 5) ∧ C.size = n + 8 ∧ (∀ j, j < n → C[j]? = some (.int .u8 (zs.getD j 0))) ∧ ∀ j, n ≤ j → j < n + 8 → C[j]? = some (.int .u8 77)) := fun w1 h => given_any (some ad) n cap zs w1 hzs h hn
  have heq := fun wx => Lib.run_eql_slice_nil (P := Tryz.prog) wx 38 5 (some ad) n cap 0 0 Tryz.underlying38
  go_enter Tryz.func18, Tryz.ntmps18
  go_wp2_with fail
  refine (HGV.out _ (HD.out.below ((Below.refl _ _).alloc (Nat.le_refl _) _))).mono ?_
  rintro e w1 ⟨rfl, C, rfl, hCs, hCp, hCq⟩
  have HC := hide (And.intro hCs (And.intro hCp hCq))
  clear hCs hCp hCq HGV
  go_wp2_with fail
  generalize hW2 : ((w.alloc (.cells #[.int .i64 4, .int .i64 ee, .int .i64 aa, .int .i64 bb, .int .u16 src, .int .u16 dst, .int .u8 proto, .int .u16 id, .int .u8 off, .bool more, .int .u16 sport, .int .u16 dport, .slice dso dsn dsc, .slice (some ad) n cap] 42)).alloc (.cells C 5)) = w2
  have HB2 : Hid (Below (w.heap.size + 1) (w.alloc (.cells #[.int .i64 4, .int .i64 ee, .int .i64 aa, .int .i64 bb, .int .u16 src, .int .u16 dst, .int .u8 proto, .int .u16 id, .int .u8 off, .bool more, .int .u16 sport, .int .u16 dport, .slice dso dsn dsc, .slice (some ad) n cap] 42)) w2) := by rw [← hW2]; exact (Below.refl _ _).alloc (by simp) _
  have HG2 : Hid (w2.heap[w.heap.size + 1]? = some (.cells C 5 (0, 0))) := by
    rw [← hW2]
    have h := heap_alloc_new (w.alloc (.cells #[.int .i64 4, .int .i64 ee, .int .i64 aa, .int .i64 bb, .int .u16 src, .int .u16 dst, .int .u8 proto, .int .u16 id, .int .u8 off, .bool more, .int .u16 sport, .int .u16 dport, .slice dso dsn dsc, .slice (some ad) n cap] 42)) (.cells C 5)
    rw [World.size_alloc] at h
    exact h
  have hz2 : w2.heap.size = w.heap.size + 2 := by rw [← hW2]; simp
  clear hW2 heq
  have HPD : Hid (Has w2 (some ⟨w.heap.size + 1, 0, none⟩) zs) := has_of_row HG2.out (fun j hj => HC.out.2.1 j (by omega))
  refine (ftable_any (some ⟨w.heap.size + 1, 0, none⟩) n (n + 8) zs w2 hzs HPD.out (by omega) HZB.out).mono ?_
  intro e w3 h3
  obtain ⟨rfl, hb3⟩ := TabPost.err h3 hte
  clear h3
  have HB3 := hide hb3
  have hz3 : w2.heap.size ≤ w3.heap.size := hb3.size
  have HBx3 : Hid (Below (w.heap.size + 1) (w.alloc (.cells #[.int .i64 4, .int .i64 ee, .int .i64 aa, .int .i64 bb, .int .u16 src, .int .u16 dst, .int .u8 proto, .int .u16 id, .int .u8 off, .bool more, .int .u16 sport, .int .u16 dport, .slice dso dsn dsc, .slice (some ad) n cap] 42)) w3) := HB2.out.trans (HB3.out.mono (by omega))
  have cc := box_cell HBx3.out
  have hzw : w.heap.size < w3.heap.size := by omega
  clear hb3
  go_wp2_with fail
  refine (rtable_any (some ad) n cap zs w3 hzs (HD.out.below (below_old HBx3.out)) (by omega) HZB.out).mono ?_
  intro e w4 h4
  obtain ⟨rfl, hb4⟩ := TabPost.err h4 hte
  clear h4
  have HB4 := hide hb4
  have hz4 : w3.heap.size ≤ w4.heap.size := hb4.size
  have HBx4 : Hid (Below (w.heap.size + 1) (w.alloc (.cells #[.int .i64 4, .int .i64 ee, .int .i64 aa, .int .i64 bb, .int .u16 src, .int .u16 dst, .int .u8 proto, .int .u16 id, .int .u8 off, .bool more, .int .u16 sport, .int .u16 dport, .slice dso dsn dsc, .slice (some ad) n cap] 42)) w4) := HBx3.out.trans (HB4.out.mono (by omega))
  have HG4 : Hid (w4.heap[w.heap.size + 1]? = some (.cells C 5 (0, 0))) := (HB4.out.block _ (by omega)).trans ((HB3.out.block _ (by omega)).trans HG2.out)
  clear cc hb4 hzw
  have cc := box_cell HBx4.out
  have hzw : w.heap.size < w4.heap.size := by omega
  go_wp2_with fail
  refine (clean_any (w.heap.size + 1) (some ad) n cap zs C w4 hzs (HD.out.below (below_old HBx4.out)) hn (fun b hb hz => by obtain ⟨b2, o2, h1, h2, _⟩ := HD.out.2 hz; rw [h1] at hb; simp only [Option.some.injEq] at hb; subst hb; show b2 < _; omega) HG4.out HC.out.1 HC.out.2.1 HC.out.2.2).mono ?_
  rintro e w5 ⟨rfl, hg5⟩
  have HG5 := hide hg5
  have hz5 : w4.heap.size ≤ w5.heap.size := hg5.size
  have HBw5 : Hid (Below w.heap.size w w5) := (below_old HBx4.out).grown hg5 (by omega) (by simp)
  clear cc hzw hg5
  have hcA : (convert 38 9 (.slice none 0 0)).run Tryz.prog w5 = .ok (.string (strOfNums [])) w5 := conv_has (w := w5) (ao := none) (zs := []) ⟨fun _ => rfl, fun h => absurd rfl h⟩ 0
  generalize tE zs = te at *
  go_wp2_with fail
  refine (bytes_nil lo (w.heap.size + 1) wb c vl [] w5 ((HBk.out.below (HBw5.out.mono hhz)).mono (by omega) (by omega)) (by omega) (World.ownsRow_nil _ _ _ _) (by decide) hc).mono ?_
  rintro e w6 ⟨rfl, hB6, hb6⟩
  have HB6 := hide hB6
  have HBe : Hid (Below lo w w6) := (HBw5.out.mono (by omega)).trans hb6
  clear hB6 hb6 hcA
  go_wp2
  go_ret
  exact ⟨by simp, HB6.out, HBe.out⟩

set_option maxRecDepth 100000 in
set_option maxHeartbeats 3200000 in
theorem wch_ne (lo hi wb c : Nat) (vl : Value) (ee aa bb src dst proto id off : Int) (more : Bool) (sport dport : Int) (dso : Option Addr) (dsn dsc : Nat) (w : World) (hB : Bk w lo hi wb vl c) (hlh : lo ≤ hi) (hc : (4 * c + 4) * 24 ≤ 140737488355328) (hte : tE [] ≠ 0) :
    Calls Tryz.prog 18 #[.pointer (some ⟨wb, 0, none⟩), .agg #[.int .i64 4, .int .i64 ee, .int .i64 aa, .int .i64 bb, .int .u16 src, .int .u16 dst, .int .u8 proto, .int .u16 id, .int .u8 off, .bool more, .int .u16 sport, .int .u16 dport, .slice dso dsn dsc, .slice none 0 0]] w fun e w' => e = .returned (.bool true) ∧ Bk w' lo w'.heap.size wb vl (c + 1) ∧ Below lo w w' := by
  have HBk := hide hB
  have hhz : hi ≤ w.heap.size := by obtain ⟨_, _, _, _, _, _, h, _⟩ := hB; exact h
  clear hB
  have HD : Hid (Has w none []) := ⟨fun _ => rfl, fun h => absurd rfl h⟩
  have HZB : Hid (∀ z ∈ ([] : List Int), 0 ≤ z ∧ z ≤ 255) := by intro z hz; simp at hz
  have HGV : Hid (∀ w1, Has w1 none [] → Calls Tryz.prog 26 #[.slice none 0 0] w1 fun e w' => e = .returned (.slice (some ⟨w1.heap.size, 0, none⟩) (0 + 8) (0 + 8)) ∧ ∃ C : Array Value, w' = w1.alloc (.cells C 5) ∧ C.size = 0 + 8 ∧ (∀ j, j < 0 → C[j]? = some (.int .u8 (([] : List Int).getD j 0))) ∧ ∀ j, 0 ≤ j → j < 0 + 8 → C[j]? = some (.int .u8 77)) := fun w1 h => given_any none 0 0 [] w1 rfl h (by decide)
  have heq := fun wx => Lib.run_eql_slice_nil (P := Tryz.prog) wx 38 5 none 0 0 0 0 Tryz.underlying38
  go_enter Tryz.func18, Tryz.ntmps18
  go_wp2_with fail
  refine (HGV.out _ (HD.out.below ((Below.refl _ _).alloc (Nat.le_refl _) _))).mono ?_
  rintro e w1 ⟨rfl, C, rfl, hCs, hCp, hCq⟩
  have HC := hide (And.intro hCs (And.intro hCp hCq))
  clear hCs hCp hCq HGV
  go_wp2_with fail
  generalize hW2 : ((w.alloc (.cells #[.int .i64 4, .int .i64 ee, .int .i64 aa, .int .i64 bb, .int .u16 src, .int .u16 dst, .int .u8 proto, .int .u16 id, .int .u8 off, .bool more, .int .u16 sport, .int .u16 dport, .slice dso dsn dsc, .slice none 0 0] 42)).alloc (.cells C 5)) = w2
  have HB2 : Hid (Below (w.heap.size + 1) (w.alloc (.cells #[.int .i64 4, .int .i64 ee, .int .i64 aa, .int .i64 bb, .int .u16 src, .int .u16 dst, .int .u8 proto, .int .u16 id, .int .u8 off, .bool more, .int .u16 sport, .int .u16 dport, .slice dso dsn dsc, .slice none 0 0] 42)) w2) := by rw [← hW2]; exact (Below.refl _ _).alloc (by simp) _
  have HG2 : Hid (w2.heap[w.heap.size + 1]? = some (.cells C 5 (0, 0))) := by
    rw [← hW2]
    have h := heap_alloc_new (w.alloc (.cells #[.int .i64 4, .int .i64 ee, .int .i64 aa, .int .i64 bb, .int .u16 src, .int .u16 dst, .int .u8 proto, .int .u16 id, .int .u8 off, .bool more, .int .u16 sport, .int .u16 dport, .slice dso dsn dsc, .slice none 0 0] 42)) (.cells C 5)
    rw [World.size_alloc] at h
    exact h
  have hz2 : w2.heap.size = w.heap.size + 2 := by rw [← hW2]; simp
  clear hW2 heq
  have HPD : Hid (Has w2 none []) := ⟨fun _ => rfl, fun h => absurd rfl h⟩
  refine (ftable_any none 0 0 [] w2 rfl HPD.out (by omega) HZB.out).mono ?_
  intro e w3 h3
  obtain ⟨rfl, hb3⟩ := TabPost.err h3 hte
  clear h3
  have HB3 := hide hb3
  have hz3 : w2.heap.size ≤ w3.heap.size := hb3.size
  have HBx3 : Hid (Below (w.heap.size + 1) (w.alloc (.cells #[.int .i64 4, .int .i64 ee, .int .i64 aa, .int .i64 bb, .int .u16 src, .int .u16 dst, .int .u8 proto, .int .u16 id, .int .u8 off, .bool more, .int .u16 sport, .int .u16 dport, .slice dso dsn dsc, .slice none 0 0] 42)) w3) := HB2.out.trans (HB3.out.mono (by omega))
  have cc := box_cell HBx3.out
  have hzw : w.heap.size < w3.heap.size := by omega
  clear hb3
  go_wp2_with fail
  refine (rtable_any none 0 0 [] w3 rfl (HD.out.below (below_old HBx3.out)) (by omega) HZB.out).mono ?_
  intro e w4 h4
  obtain ⟨rfl, hb4⟩ := TabPost.err h4 hte
  clear h4
  have HB4 := hide hb4
  have hz4 : w3.heap.size ≤ w4.heap.size := hb4.size
  have HBx4 : Hid (Below (w.heap.size + 1) (w.alloc (.cells #[.int .i64 4, .int .i64 ee, .int .i64 aa, .int .i64 bb, .int .u16 src, .int .u16 dst, .int .u8 proto, .int .u16 id, .int .u8 off, .bool more, .int .u16 sport, .int .u16 dport, .slice dso dsn dsc, .slice none 0 0] 42)) w4) := HBx3.out.trans (HB4.out.mono (by omega))
  have HG4 : Hid (w4.heap[w.heap.size + 1]? = some (.cells C 5 (0, 0))) := (HB4.out.block _ (by omega)).trans ((HB3.out.block _ (by omega)).trans HG2.out)
  clear cc hb4 hzw
  have cc := box_cell HBx4.out
  have hzw : w.heap.size < w4.heap.size := by omega
  go_wp2_with fail
  refine (clean_any (w.heap.size + 1) none 0 0 [] C w4 rfl (HD.out.below (below_old HBx4.out)) (by decide) (by simp) HG4.out HC.out.1 HC.out.2.1 HC.out.2.2).mono ?_
  rintro e w5 ⟨rfl, hg5⟩
  have HG5 := hide hg5
  have hz5 : w4.heap.size ≤ w5.heap.size := hg5.size
  have HBw5 : Hid (Below w.heap.size w w5) := (below_old HBx4.out).grown hg5 (by omega) (by simp)
  clear cc hzw hg5
  have hcA : (convert 38 9 (.slice none 0 0)).run Tryz.prog w5 = .ok (.string (strOfNums [])) w5 := conv_has (w := w5) (ao := none) (zs := []) ⟨fun _ => rfl, fun h => absurd rfl h⟩ 0
  generalize tE [] = te at *
  go_wp2_with fail
  refine (bytes_nil lo (w.heap.size + 1) wb c vl [] w5 ((HBk.out.below (HBw5.out.mono hhz)).mono (by omega) (by omega)) (by omega) (World.ownsRow_nil _ _ _ _) (by decide) hc).mono ?_
  rintro e w6 ⟨rfl, hB6, hb6⟩
  have HB6 := hide hB6
  have HBe : Hid (Below lo w w6) := (HBw5.out.mono (by omega)).trans hb6
  clear hB6 hb6 hcA
  go_wp2
  go_ret
  exact ⟨by simp, HB6.out, HBe.out⟩

end Go.Proofs.YtajphdppmdoalaaGreat
