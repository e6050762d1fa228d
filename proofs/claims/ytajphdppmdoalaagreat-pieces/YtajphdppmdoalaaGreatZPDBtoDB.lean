import Derived.Test.YtajphdppmdoalaaGreatZPDAtoV2
import Derived.Test.YtajphdppmdoalaaGreatZPCCtoCC
import Derived.Test.YtajphdppmdoalaaGreatZPMKtoMK
namespace Go.Proofs.YtajphdppmdoalaaGreat
open Go.RowKit
set_option linter.unusedVariables false

set_option maxRecDepth 100000 in
set_option maxHeartbeats 1600000 in
/-- Arrive, where there is no such replica. -/
theorem arrive_no (rep : Int) (xb : Nat) (S : Cl) (F : Nat → Prop) (ao : Option Addr) (n cap : Nat) (w : World) (h : PrIs w xb S F) (hk : rep < 0 ∨ S.reps ≤ rep) :
    Calls Tryz.prog 40 #[.pointer (some ⟨xb, 0, none⟩), .int .i64 rep, .slice ao n cap] w fun e w' => e = .returned (.tuple #[.int .i64 0, .int .i64 1]) ∧ w' = w := by
  obtain ⟨gS, cs, vT, vV, vN, RR, Fs, h, hr, he⟩ := h
  rw [hr] at hk
  have hyb := h.lt
  have dY := arr_cell h.blk
  clear h
  generalize cs.size = N at *
  by_cases h0 : rep < 0
  · clear hk
    go_enter Tryz.func40, Tryz.ntmps40
    go_wp2
    go_ret2
    exact ⟨rfl, rfl⟩
  · have h1 : rep ≥ (N : Int) := by omega
    clear hk
    go_enter Tryz.func40, Tryz.ntmps40
    go_wp2
    go_ret2
    exact ⟨rfl, rfl⟩

theorem Aft.bxa {w wz : World} {xb yb : Nat} {S1 S2 : Cl} {F1 F2 : Nat → Prop} {A B : Array Value} {s t : TypeId} {o : Obj} (h : Aft (((w.alloc (.cells A s)).alloc (.cells B t)).alloc o) xb yb F1 F2 S1 S2 wz) (hlt : ∀ k, F1 k ∨ F2 k → k < w.heap.size) : Bx w A B wz := by
  obtain ⟨G1, G2, _, hs⟩ := h
  exact ((bx_start w A B s t).only (F := fun _ => False) (Only.of_below ((Below.refl _ _).alloc (Nat.le_refl _) _)) (fun f => f) (fun f => f)).only hs.only (fun hk => by have := hlt _ hk; omega) (fun hk => by have := hlt _ hk; omega)
theorem Aft.clean {w w1 wz w' : World} {xb yb ga : Nat} {S1 S2 : Cl} {F1 F2 : Nat → Prop} (hb : Below w.heap.size w w1) (hga : w.heap.size ≤ ga ∧ ga < w1.heap.size) (hlt : ∀ k, F1 k ∨ F2 k → k < w.heap.size) (h : Aft w1 xb yb F1 F2 S1 S2 wz) (hg : wz.grownBy w' (some ga)) : Aft w xb yb F1 F2 S1 S2 w' := by
  obtain ⟨G1, G2, ht, hs⟩ := h
  have ho : Only (fun k => some ga = some k) wz w' := Only.of_grown hg
  have hG : ∀ k, G1 k ∨ G2 k → ¬ (some ga = some k) := by
    intro k hk he
    obtain rfl : ga = k := by simpa using he
    rcases hs.own ga hk with h1 | h1
    · have := hlt ga h1
      omega
    · omega
  refine ⟨G1, G2, ht.only ho hG, ((Stp.below hb).trans hs).only.trans ho (fun k hk he => ?_), ((Stp.below hb).trans hs).own⟩
  exfalso
  obtain rfl : ga = k := by simpa using he
  omega
/-- Behind given: the copy of the bytes lies in the block ga, both sides read as S1, S2. -/
def Brg (w0 : World) (n : Nat) (ao : Option Addr) (zs : List Int) (xb yb : Nat) (F1 F2 : Nat → Prop) (S1 S2 : Cl) (wz : World) : Prop :=
  ∃ C : Array Value, (C.size = n + 8 ∧ (∀ j, j < n → C[j]? = some (.int .u8 (zs.getD j 0))) ∧ ∀ j, n ≤ j → j < n + 8 → C[j]? = some (.int .u8 77)) ∧ wz.heap[w0.heap.size]? = some (.cells C 5 (0, 0)) ∧ Aft (w0.alloc (.cells C 5)) xb yb F1 F2 S1 S2 wz ∧ Has wz ao zs
theorem brg_own {w0 : World} {C : Array Value} {F1 F2 G : Nat → Prop} {ao : Option Addr} {zs : List Int} (hown : ∀ k, G k → (F1 k ∨ F2 k) ∨ (w0.alloc (.cells C 5)).heap.size ≤ k) (hlt : ∀ k, F1 k ∨ F2 k → k < w0.heap.size) (hao : zs ≠ [] → ∀ a, ao = some a → ¬ (F1 a.block ∨ F2 a.block) ∧ a.block < w0.heap.size) :
    ¬ G w0.heap.size ∧ (zs ≠ [] → ∀ a, ao = some a → ¬ G a.block) := by
  refine ⟨fun hk => ?_, fun hz a ha hk => ?_⟩
  · rcases hown _ hk with h | h
    · have := hlt _ h
      omega
    · simp at h
      omega
  · rcases hown _ hk with h | h
    · exact (hao hz a ha).1 h
    · have := (hao hz a ha).2
      simp at h
      omega
theorem Brg.X {w0 wz : World} {n : Nat} {ao : Option Addr} {zs : List Int} {xb yb : Nat} {F1 F2 : Nat → Prop} {S1 S2 S1' : Cl} {f : FuncId} {args : Array Value} {r : Ending} (h : Brg w0 n ao zs xb yb F1 F2 S1 S2 wz) (hl : zs.length = n) (hlt : ∀ k, F1 k ∨ F2 k → k < w0.heap.size) (hao : zs ≠ [] → ∀ a, ao = some a → ¬ (F1 a.block ∨ F2 a.block) ∧ a.block < w0.heap.size)
    (hc : ∀ G, PrIs wz xb S1 G → ¬ G w0.heap.size → Has wz (some ⟨w0.heap.size, 0, none⟩) zs → Calls Tryz.prog f args wz fun e w' => e = r ∧ ∃ G', PrIs w' xb S1' G' ∧ Stp wz w' G G') : Calls Tryz.prog f args wz fun e w' => e = r ∧ Brg w0 n ao zs xb yb F1 F2 S1' S2 w' := by
  obtain ⟨C, hC, hg, ⟨G1, G2, ht, hs⟩, hH⟩ := h
  obtain ⟨o1, o2⟩ := brg_own (G := G1) (ao := ao) (zs := zs) (fun k hk => hs.own k (.inl hk)) hlt hao
  refine (hc G1 ht.x o1 (has_of_row hg (fun j hj => hC.2.1 j (by omega)))).mono ?_
  rintro e w' ⟨he, G', hp, hs'⟩
  obtain ⟨h1, h2⟩ := ht.stepX hp hs'
  exact ⟨he, C, hC, (hs'.only.block _ (lt_of_block hg) o1).trans hg, ⟨G', G2, h1, hs.trans h2⟩, hH.only hs'.only o2⟩
theorem Brg.Y {w0 wz : World} {n : Nat} {ao : Option Addr} {zs : List Int} {xb yb : Nat} {F1 F2 : Nat → Prop} {S1 S2 S2' : Cl} {f : FuncId} {args : Array Value} {r : Ending} (h : Brg w0 n ao zs xb yb F1 F2 S1 S2 wz) (hlt : ∀ k, F1 k ∨ F2 k → k < w0.heap.size) (hao : zs ≠ [] → ∀ a, ao = some a → ¬ (F1 a.block ∨ F2 a.block) ∧ a.block < w0.heap.size)
    (hc : ∀ G, RfIs wz yb S2 G → (zs ≠ [] → ∀ a, ao = some a → ¬ G a.block) → Has wz ao zs → Calls Tryz.prog f args wz fun e w' => e = r ∧ ∃ G', RfIs w' yb S2' G' ∧ Stp wz w' G G') : Calls Tryz.prog f args wz fun e w' => e = r ∧ Brg w0 n ao zs xb yb F1 F2 S1 S2' w' := by
  obtain ⟨C, hC, hg, ⟨G1, G2, ht, hs⟩, hH⟩ := h
  obtain ⟨o1, o2⟩ := brg_own (G := G2) (ao := ao) (zs := zs) (fun k hk => hs.own k (.inr hk)) hlt hao
  refine (hc G2 ht.y o2 hH).mono ?_
  rintro e w' ⟨he, G', hp, hs'⟩
  obtain ⟨h1, h2⟩ := ht.stepY hp hs'
  exact ⟨he, C, hC, (hs'.only.block _ (lt_of_block hg) o1).trans hg, ⟨G1, G', h1, hs.trans h2⟩, hH.only hs'.only o2⟩
theorem brg_given {w0 : World} {xb yb : Nat} {S : Cl} {F1 F2 : Nat → Prop} (ao : Option Addr) (n cap : Nat) (zs : List Int) (h : Tw w0 xb yb S S F1 F2) (hl : zs.length = n) (hd : Has w0 ao zs) (hn : n ≤ 140737488351232) :
    Calls Tryz.prog 26 #[.slice ao n cap] w0 fun e w' => e = .returned (.slice (some ⟨w0.heap.size, 0, none⟩) (n + 8) (n + 8)) ∧ Brg w0 n ao zs xb yb F1 F2 S S w' := by
  refine (given_any ao n cap zs w0 hl hd hn).mono ?_
  rintro e w' ⟨he, C, rfl, h1, h2, h3⟩
  have hb : Below w0.heap.size w0 (w0.alloc (.cells C 5)) := (Below.refl _ _).alloc (Nat.le_refl _) _
  exact ⟨he, C, ⟨h1, h2, h3⟩, heap_alloc_new _ _, Aft.start (h.below hb), hd.below hb⟩
theorem brg_clean {w w0 wz : World} {xb yb : Nat} {S1 S2 : Cl} {F1 F2 : Nat → Prop} (hw : Below w.heap.size w w0) (hlt : ∀ k, F1 k ∨ F2 k → k < w.heap.size) (ao : Option Addr) (n cap : Nat) (zs : List Int) (h : Brg w0 n ao zs xb yb F1 F2 S1 S2 wz) (hl : zs.length = n) (hn : n ≤ 140737488351232) (hao : zs ≠ [] → ∀ a, ao = some a → ¬ (F1 a.block ∨ F2 a.block) ∧ a.block < w0.heap.size) :
    Calls Tryz.prog 29 #[.slice (some ⟨w0.heap.size, 0, none⟩) (n + 8) (n + 8), .slice ao n cap] wz fun e w' => e = .returned (.bool true) ∧ Aft w xb yb F1 F2 S1 S2 w' := by
  obtain ⟨C, hC, hg, hA, hH⟩ := h
  refine (clean_any w0.heap.size ao n cap zs C wz hl hH hn (fun b hb hz => (hao hz b hb).2) hg hC.1 hC.2.1 hC.2.2).mono ?_
  rintro e w' ⟨he, hgr⟩
  exact ⟨he, Aft.clean (hw.trans ((Below.refl _ _).alloc hw.size _)) ⟨hw.size, by simp⟩ hlt hA hgr⟩
theorem rf_stp {w w' : World} {yb : Nat} {S : Cl} {G : Nat → Prop} (h : RfIs w yb S G) (hb : Below w.heap.size w w') : ∃ G', RfIs w' yb S G' ∧ Stp w w' G G' := ⟨G, h.only (G := fun _ => False) (Only.of_below hb) (fun _ _ f => f), Stp.below hb⟩
theorem pr_stp {w w' : World} {xb : Nat} {S : Cl} {G : Nat → Prop} (h : PrIs w xb S G) (hb : Below w.heap.size w w') : ∃ G', PrIs w' xb S G' ∧ Stp w w' G G' := ⟨G, h.below hb, Stp.below hb⟩
theorem ascK_ltL (zs : List Int) (k : Nat) : ∀ z ∈ ascK zs k, 0 ≤ z ∧ z < (k : Int) := by
  induction k with
  | zero => intro z hz; simp [ascK] at hz
  | succ k ih =>
    intro z hz
    rw [ascK] at hz
    split at hz
    · rcases List.mem_append.1 hz with hz | hz
      · have := ih z hz
        omega
      · have := List.mem_singleton.1 hz
        omega
    · have := ih z hz
      omega
theorem tbK_bdL (ord : List Int) (h : ∀ z ∈ ord, 0 ≤ z ∧ z ≤ 255) (k : Nat) : ∀ o ∈ tbK ord k, 0 ≤ o.getD 0 ∧ o.getD 0 ≤ 255 := by
  have hg : ∀ i, 0 ≤ ord.getD i 0 ∧ ord.getD i 0 ≤ 255 := by
    intro i
    rw [List.getD_eq_getElem?_getD]
    cases hi : ord[i]? with
    | none => simp
    | some z => exact h z (List.mem_of_getElem? hi)
  induction k with
  | zero =>
    intro o ho
    rw [tbK] at ho
    rw [(List.mem_replicate.1 ho).2]
    simp
  | succ k ih =>
    intro o ho
    rw [tbK] at ho
    rcases List.mem_or_eq_of_mem_set ho with ho | ho
    · exact ih o ho
    · rw [ho]
      exact hg _
theorem tbl_bdL (zs : List Int) : ∀ z ∈ tblOf zs, 0 ≤ z ∧ z ≤ 255 := by
  intro z hz
  unfold tblOf at hz
  split at hz
  · simp at hz
  · rw [tbl] at hz
    obtain ⟨o, ho, rfl⟩ := List.mem_map.1 hz
    refine tbK_bdL (asc zs) (fun y hy => ?_) _ o ho
    have := ascK_ltL zs 256 y hy
    omega
theorem pair_deliver (xb yb : Nat) (ee aa bb src dst proto id off : Int) (more : Bool) (sport dport : Int) (dso : Option Addr) (dsn dsc : Nat) (ao : Option Addr) (n cap : Nat) (w : World) (S : Cl) (F1 F2 : Nat → Prop) (h : Tw w xb yb S S F1 F2) (hg : Good S) (hn : S.next ≤ 1900000000000) :
    Calls Tryz.prog 22 #[.agg #[.pointer (some ⟨xb, 0, none⟩), .pointer (some ⟨yb, 0, none⟩)], .agg #[.int .i64 11, .int .i64 ee, .int .i64 aa, .int .i64 bb, .int .u16 src, .int .u16 dst, .int .u8 proto, .int .u16 id, .int .u8 off, .bool more, .int .u16 sport, .int .u16 dport, .slice dso dsn dsc, .slice ao n cap]] w fun e w' => e = .returned (.bool true) ∧ ∃ S', Aft w xb yb F1 F2 S' S' w' ∧ Nxt S S' := by
  have hA := Aft.start (h.below (boxes_below w (.cells #[.pointer (some ⟨xb, 0, none⟩), .pointer (some ⟨yb, 0, none⟩)] 52) (.cells #[.int .i64 11, .int .i64 ee, .int .i64 aa, .int .i64 bb, .int .u16 src, .int .u16 dst, .int .u8 proto, .int .u16 id, .int .u8 off, .bool more, .int .u16 sport, .int .u16 dport, .slice dso dsn dsc, .slice ao n cap] 42)))
  by_cases hk : aa < 0 ∨ (S.sent.length : Int) ≤ aa
  · refine (small_deliver xb yb ee aa bb src dst proto id off more sport dport dso dsn dsc ao n cap w (Aft ((w.alloc (.cells #[.pointer (some ⟨xb, 0, none⟩), .pointer (some ⟨yb, 0, none⟩)] 52)).alloc (.cells #[.int .i64 11, .int .i64 ee, .int .i64 aa, .int .i64 bb, .int .u16 src, .int .u16 dst, .int .u8 proto, .int .u16 id, .int .u8 off, .bool more, .int .u16 sport, .int .u16 dport, .slice dso dsn dsc, .slice ao n cap] 42)) xb yb F1 F2 S S) (Aft ((w.alloc (.cells #[.pointer (some ⟨xb, 0, none⟩), .pointer (some ⟨yb, 0, none⟩)] 52)).alloc (.cells #[.int .i64 11, .int .i64 ee, .int .i64 aa, .int .i64 bb, .int .u16 src, .int .u16 dst, .int .u8 proto, .int .u16 id, .int .u8 off, .bool more, .int .u16 sport, .int .u16 dport, .slice dso dsn dsc, .slice ao n cap] 42)) xb yb F1 F2 S S) (Aft ((w.alloc (.cells #[.pointer (some ⟨xb, 0, none⟩), .pointer (some ⟨yb, 0, none⟩)] 52)).alloc (.cells #[.int .i64 11, .int .i64 ee, .int .i64 aa, .int .i64 bb, .int .u16 src, .int .u16 dst, .int .u8 proto, .int .u16 id, .int .u8 off, .bool more, .int .u16 sport, .int .u16 dport, .slice dso dsn dsc, .slice ao n cap] 42)) xb yb F1 F2 S S) 1 (hide ?_) (hide ?_) (hide fun wz hz => hz.bx h.flt) (hide fun wz hz => hz.bx h.flt) (hide hA)).mono ?_
    · intro wz hz
      exact hz.BX fun G hp => deliver_no xb aa S G wz hp hk
    · intro wz hz
      refine hz.BY fun G hp => ?_
      obtain ⟨vS, vE, vN, vV, ES, NS, hp⟩ := hp
      have hl : NS.length = S.sent.length := by rw [← hp.hns, List.length_map]
      exact (rdeliver_no aa yb S G vS vE vN vV ES NS wz hp (by rw [hl]; exact hk)).mono fun e w' ⟨he, hw⟩ => ⟨he, by rw [hw]; exact Below.refl _ _⟩
    · rintro e w' ⟨rfl, hz⟩
      exact ⟨rfl, S, hz.pre (boxes_below w _ _), Nxt.same hg⟩
  · obtain ⟨k, rfl⟩ := Int.eq_ofNat_of_zero_le (show 0 ≤ aa by omega)
    have hkl : k < S.sent.length := by omega
    have hks := List.getElem?_eq_getElem hkl
    refine (small_deliver xb yb ee (k : Int) bb src dst proto id off more sport dport dso dsn dsc ao n cap w (Aft ((w.alloc (.cells #[.pointer (some ⟨xb, 0, none⟩), .pointer (some ⟨yb, 0, none⟩)] 52)).alloc (.cells #[.int .i64 11, .int .i64 ee, .int .i64 (k : Int), .int .i64 bb, .int .u16 src, .int .u16 dst, .int .u8 proto, .int .u16 id, .int .u8 off, .bool more, .int .u16 sport, .int .u16 dport, .slice dso dsn dsc, .slice ao n cap] 42)) xb yb F1 F2 S S) (Aft ((w.alloc (.cells #[.pointer (some ⟨xb, 0, none⟩), .pointer (some ⟨yb, 0, none⟩)] 52)).alloc (.cells #[.int .i64 11, .int .i64 ee, .int .i64 (k : Int), .int .i64 bb, .int .u16 src, .int .u16 dst, .int .u8 proto, .int .u16 id, .int .u8 off, .bool more, .int .u16 sport, .int .u16 dport, .slice dso dsn dsc, .slice ao n cap] 42)) xb yb F1 F2 (deliverM S k) S) (Aft ((w.alloc (.cells #[.pointer (some ⟨xb, 0, none⟩), .pointer (some ⟨yb, 0, none⟩)] 52)).alloc (.cells #[.int .i64 11, .int .i64 ee, .int .i64 (k : Int), .int .i64 bb, .int .u16 src, .int .u16 dst, .int .u8 proto, .int .u16 id, .int .u8 off, .bool more, .int .u16 sport, .int .u16 dport, .slice dso dsn dsc, .slice ao n cap] 42)) xb yb F1 F2 (deliverM S k) (deliverM S k)) 0 (hide ?_) (hide ?_) (hide fun wz hz => hz.bx h.flt) (hide fun wz hz => hz.bx h.flt) (hide hA)).mono ?_
    · intro wz hz
      exact hz.X fun G hp _ => deliver_yes xb k S G _ wz hp hg.sml hg.uq hg.dst hks
    · intro wz hz
      refine hz.Y fun G hp _ => ?_
      obtain ⟨vS, vE, vN, vV, ES, NS, hp⟩ := hp
      have hl : NS.length = S.sent.length := by rw [← hp.hns, List.length_map]
      refine (rdeliver_yes k yb S G vS vE vN vV ES NS wz hp hg.sml hn (by omega)).mono ?_
      rintro e w' ⟨he, F', vE', vN', vV', ES', hR, hS⟩
      exact ⟨he, F', ⟨_, _, _, _, _, _, hR⟩, hS⟩
    · rintro e w' ⟨rfl, hz⟩
      exact ⟨rfl, deliverM S k, hz.pre (boxes_below w _ _), nxt_deliver S k hg⟩
theorem pair_backends (xb yb : Nat) (ee aa bb src dst proto id off : Int) (more : Bool) (sport dport : Int) (dso : Option Addr) (dsn dsc : Nat) (ao : Option Addr) (n cap : Nat) (w : World) (zs : List Int) (S : Cl) (F1 F2 : Nat → Prop) (h : Tw w xb yb S S F1 F2) (hg : Good S) (hl : zs.length = n) (hd : Has w ao zs) (hn : n ≤ 140737488351232) (hz : ∀ z ∈ zs, 0 ≤ z ∧ z ≤ 255) (hcap : n ≤ cap) (hcm : cap ≤ maxLen) (hc0 : ao = none → cap = 0) (hao : zs ≠ [] → ∀ a, ao = some a → ¬ (F1 a.block ∨ F2 a.block)) :
    Calls Tryz.prog 20 #[.agg #[.pointer (some ⟨xb, 0, none⟩), .pointer (some ⟨yb, 0, none⟩)], .agg #[.int .i64 6, .int .i64 ee, .int .i64 aa, .int .i64 bb, .int .u16 src, .int .u16 dst, .int .u8 proto, .int .u16 id, .int .u8 off, .bool more, .int .u16 sport, .int .u16 dport, .slice dso dsn dsc, .slice ao n cap]] w fun e w' => e = .returned (.bool true) ∧ ∃ S', Aft w xb yb F1 F2 S' S' w' ∧ Nxt S S' := by
  have hn9 : n ≤ 9223372036854775807 := by omega
  have hlt := h.flt
  cases ao with
  | some aa1 =>
    have hbw := boxes_below w (.cells #[.pointer (some ⟨xb, 0, none⟩), .pointer (some ⟨yb, 0, none⟩)] 52) (.cells #[.int .i64 6, .int .i64 ee, .int .i64 aa, .int .i64 bb, .int .u16 src, .int .u16 dst, .int .u8 proto, .int .u16 id, .int .u8 off, .bool more, .int .u16 sport, .int .u16 dport, .slice dso dsn dsc, .slice (some aa1) n cap] 42)
    have hT := h.below hbw
    have hD := hd.below hbw
    have hbx := bx_start w #[.pointer (some ⟨xb, 0, none⟩), .pointer (some ⟨yb, 0, none⟩)] #[.int .i64 6, .int .i64 ee, .int .i64 aa, .int .i64 bb, .int .u16 src, .int .u16 dst, .int .u8 proto, .int .u16 id, .int .u8 off, .bool more, .int .u16 sport, .int .u16 dport, .slice dso dsn dsc, .slice (some aa1) n cap] 52 42
    generalize hw0 : ((w.alloc (.cells #[.pointer (some ⟨xb, 0, none⟩), .pointer (some ⟨yb, 0, none⟩)] 52)).alloc (.cells #[.int .i64 6, .int .i64 ee, .int .i64 aa, .int .i64 bb, .int .u16 src, .int .u16 dst, .int .u8 proto, .int .u16 id, .int .u8 off, .bool more, .int .u16 sport, .int .u16 dport, .slice dso dsn dsc, .slice (some aa1) n cap] 42)) = w0 at *
    have hlt0 : ∀ k, F1 k ∨ F2 k → k < w0.heap.size := hT.flt
    have hao0 : zs ≠ [] → ∀ a, (some aa1) = some a → ¬ (F1 a.block ∨ F2 a.block) ∧ a.block < w0.heap.size := fun hz a ha => ⟨hao hz a ha, by obtain ⟨b, o, h1, h2, _⟩ := hD.2 hz; rw [ha] at h1; simp only [Option.some.injEq] at h1; subst h1; exact h2⟩
    have hBx : ∀ {S1 S2 : Cl} {wz : World}, Brg w0 n (some aa1) zs xb yb F1 F2 S1 S2 wz → Bx w #[.pointer (some ⟨xb, 0, none⟩), .pointer (some ⟨yb, 0, none⟩)] #[.int .i64 6, .int .i64 ee, .int .i64 aa, .int .i64 bb, .int .u16 src, .int .u16 dst, .int .u8 proto, .int .u16 id, .int .u8 off, .bool more, .int .u16 sport, .int .u16 dport, .slice dso dsn dsc, .slice (some aa1) n cap] wz := by
      rintro S1 S2 wz ⟨C, _, _, hA, _⟩
      rw [← hw0] at hA
      exact hA.bxa hlt
    have hTE := alB_tE zs hz
    cases hal : alB zs
    · have ht1 := hTE.1 hal
      refine (brings_backends_some xb yb ee aa bb src dst proto id off more sport dport dso dsn dsc aa1 n cap w w0.heap.size 0 1 (fun wz => wz = w0) (Brg w0 n (some aa1) zs xb yb F1 F2 S S) (Brg w0 n (some aa1) zs xb yb F1 F2 S S) (Brg w0 n (some aa1) zs xb yb F1 F2 S S) (Aft w xb yb F1 F2 S S) (hide ?_) (hide ?_) (hide ?_) (hide ?_) (hide fun wz hqz => by rw [hqz]; exact hbx) (hide fun wz hqz => hBx hqz) (hide fun wz hqz => hBx hqz) (hide fun wz hqz => hBx hqz) (hide hw0) hn).mono ?_
      · rintro wz rfl
        exact brg_given (some aa1) n cap zs hT hl hD hn
      · intro wz hqz
        refine hqz.X hl hlt0 hao0 fun G hp hG hH => ?_
        refine (back_any xb S G zs (some ⟨w0.heap.size, 0, none⟩) n (n + 8) wz hp hl hH hn9 hz).mono ?_
        rintro e w' (⟨_, he, hb⟩ | ⟨h1, _⟩)
        · exact ⟨he, pr_stp hp hb⟩
        · exact absurd ht1 h1
      · intro wz hqz
        refine hqz.Y hlt0 hao0 fun G hp hG hH => ?_
        obtain ⟨vS, vE, vN, vV, ES, NS, hp⟩ := hp
        refine (rbackends_any yb S G vS vE vN vV ES NS (some aa1) n cap zs wz hp hl hH hn9 hz).mono ?_
        rintro e w' (⟨_, he, hb⟩ | ⟨h1, _⟩)
        · exact ⟨he, rf_stp ⟨_, _, _, _, _, _, hp⟩ hb⟩
        · rw [hal] at h1
          exact absurd h1 (by decide)
      · intro wz hqz
        exact brg_clean hbw hlt (some aa1) n cap zs hqz hl hn hao0
      · rintro e w' ⟨rfl, hzz⟩
        exact ⟨rfl, S, hzz, Nxt.same hg⟩
    · have ht1 : tE zs ≠ 1 := by rw [(hTE.2 hal).2.2]; split <;> decide
      refine (brings_backends_some xb yb ee aa bb src dst proto id off more sport dport dso dsn dsc aa1 n cap w w0.heap.size 0 0 (fun wz => wz = w0) (Brg w0 n (some aa1) zs xb yb F1 F2 S S) (Brg w0 n (some aa1) zs xb yb F1 F2 (backM S (tblOf zs)) S) (Brg w0 n (some aa1) zs xb yb F1 F2 (backM S (tblOf zs)) (backM S (tblOf zs))) (Aft w xb yb F1 F2 (backM S (tblOf zs)) (backM S (tblOf zs))) (hide ?_) (hide ?_) (hide ?_) (hide ?_) (hide fun wz hqz => by rw [hqz]; exact hbx) (hide fun wz hqz => hBx hqz) (hide fun wz hqz => hBx hqz) (hide fun wz hqz => hBx hqz) (hide hw0) hn).mono ?_
      · rintro wz rfl
        exact brg_given (some aa1) n cap zs hT hl hD hn
      · intro wz hqz
        refine hqz.X hl hlt0 hao0 fun G hp hG hH => ?_
        refine (back_any xb S G zs (some ⟨w0.heap.size, 0, none⟩) n (n + 8) wz hp hl hH hn9 hz).mono ?_
        rintro e w' (⟨h1, _⟩ | ⟨_, he, hb⟩)
        · exact absurd h1 ht1
        · exact ⟨he, hb⟩
      · intro wz hqz
        refine hqz.Y hlt0 hao0 fun G hp hG hH => ?_
        obtain ⟨vS, vE, vN, vV, ES, NS, hp⟩ := hp
        refine (rbackends_any yb S G vS vE vN vV ES NS (some aa1) n cap zs wz hp hl hH hn9 hz).mono ?_
        rintro e w' (⟨h1, _⟩ | ⟨_, he, F', vS', hR, hS⟩)
        · rw [hal] at h1
          exact absurd h1 (by decide)
        · exact ⟨he, F', ⟨_, _, _, _, _, _, hR⟩, hS⟩
      · intro wz hqz
        exact brg_clean hbw hlt (some aa1) n cap zs hqz hl hn hao0
      · rintro e w' ⟨rfl, hzz⟩
        exact ⟨rfl, _, hzz, nxt_back S _ hg (tblOf_len _) (tbl_bdL zs)⟩
  | none =>
    obtain rfl := hd.1 rfl
    obtain rfl : n = 0 := by simpa using hl.symm
    obtain rfl := hc0 rfl
    have hbw := boxes_below w (.cells #[.pointer (some ⟨xb, 0, none⟩), .pointer (some ⟨yb, 0, none⟩)] 52) (.cells #[.int .i64 6, .int .i64 ee, .int .i64 aa, .int .i64 bb, .int .u16 src, .int .u16 dst, .int .u8 proto, .int .u16 id, .int .u8 off, .bool more, .int .u16 sport, .int .u16 dport, .slice dso dsn dsc, .slice none 0 0] 42)
    have hT := h.below hbw
    have hD := hd.below hbw
    have hbx := bx_start w #[.pointer (some ⟨xb, 0, none⟩), .pointer (some ⟨yb, 0, none⟩)] #[.int .i64 6, .int .i64 ee, .int .i64 aa, .int .i64 bb, .int .u16 src, .int .u16 dst, .int .u8 proto, .int .u16 id, .int .u8 off, .bool more, .int .u16 sport, .int .u16 dport, .slice dso dsn dsc, .slice none 0 0] 52 42
    generalize hw0 : ((w.alloc (.cells #[.pointer (some ⟨xb, 0, none⟩), .pointer (some ⟨yb, 0, none⟩)] 52)).alloc (.cells #[.int .i64 6, .int .i64 ee, .int .i64 aa, .int .i64 bb, .int .u16 src, .int .u16 dst, .int .u8 proto, .int .u16 id, .int .u8 off, .bool more, .int .u16 sport, .int .u16 dport, .slice dso dsn dsc, .slice none 0 0] 42)) = w0 at *
    have hlt0 : ∀ k, F1 k ∨ F2 k → k < w0.heap.size := hT.flt
    have hao0 : ([] : List Int) ≠ [] → ∀ a, (none : Option Addr) = some a → ¬ (F1 a.block ∨ F2 a.block) ∧ a.block < w0.heap.size := fun hz a ha => ⟨hao hz a ha, by obtain ⟨b, o, h1, h2, _⟩ := hD.2 hz; rw [ha] at h1; simp only [Option.some.injEq] at h1; subst h1; exact h2⟩
    have hBx : ∀ {S1 S2 : Cl} {wz : World}, Brg w0 0 none [] xb yb F1 F2 S1 S2 wz → Bx w #[.pointer (some ⟨xb, 0, none⟩), .pointer (some ⟨yb, 0, none⟩)] #[.int .i64 6, .int .i64 ee, .int .i64 aa, .int .i64 bb, .int .u16 src, .int .u16 dst, .int .u8 proto, .int .u16 id, .int .u8 off, .bool more, .int .u16 sport, .int .u16 dport, .slice dso dsn dsc, .slice none 0 0] wz := by
      rintro S1 S2 wz ⟨C, _, _, hA, _⟩
      rw [← hw0] at hA
      exact hA.bxa hlt
    have hTE := alB_tE [] (by simp)
    cases hal : alB []
    · have ht1 := hTE.1 hal
      refine (brings_backends_nil xb yb ee aa bb src dst proto id off more sport dport dso dsn dsc w w0.heap.size 0 1 (fun wz => wz = w0) (Brg w0 0 none [] xb yb F1 F2 S S) (Brg w0 0 none [] xb yb F1 F2 S S) (Brg w0 0 none [] xb yb F1 F2 S S) (Aft w xb yb F1 F2 S S) (hide ?_) (hide ?_) (hide ?_) (hide ?_) (hide fun wz hqz => by rw [hqz]; exact hbx) (hide fun wz hqz => hBx hqz) (hide fun wz hqz => hBx hqz) (hide fun wz hqz => hBx hqz) (hide hw0) (by decide)).mono ?_
      · rintro wz rfl
        exact brg_given none 0 0 [] hT rfl hD (by decide)
      · intro wz hqz
        refine hqz.X rfl hlt0 hao0 fun G hp hG hH => ?_
        refine (back_any xb S G [] none 0 0 wz hp rfl ⟨fun _ => rfl, fun h => absurd rfl h⟩ (by decide) (by simp)).mono ?_
        rintro e w' (⟨_, he, hb⟩ | ⟨h1, _⟩)
        · exact ⟨he, pr_stp hp hb⟩
        · exact absurd ht1 h1
      · intro wz hqz
        refine hqz.Y hlt0 hao0 fun G hp hG hH => ?_
        obtain ⟨vS, vE, vN, vV, ES, NS, hp⟩ := hp
        refine (rbackends_any yb S G vS vE vN vV ES NS none 0 0 [] wz hp rfl hH (by decide) (by simp)).mono ?_
        rintro e w' (⟨_, he, hb⟩ | ⟨h1, _⟩)
        · exact ⟨he, rf_stp ⟨_, _, _, _, _, _, hp⟩ hb⟩
        · rw [hal] at h1
          exact absurd h1 (by decide)
      · intro wz hqz
        exact brg_clean hbw hlt none 0 0 [] hqz rfl (by decide) hao0
      · rintro e w' ⟨rfl, hzz⟩
        exact ⟨rfl, S, hzz, Nxt.same hg⟩
    · have ht1 : tE [] ≠ 1 := by rw [(hTE.2 hal).2.2]; split <;> decide
      refine (brings_backends_nil xb yb ee aa bb src dst proto id off more sport dport dso dsn dsc w w0.heap.size 0 0 (fun wz => wz = w0) (Brg w0 0 none [] xb yb F1 F2 S S) (Brg w0 0 none [] xb yb F1 F2 (backM S (tblOf [])) S) (Brg w0 0 none [] xb yb F1 F2 (backM S (tblOf [])) (backM S (tblOf []))) (Aft w xb yb F1 F2 (backM S (tblOf [])) (backM S (tblOf []))) (hide ?_) (hide ?_) (hide ?_) (hide ?_) (hide fun wz hqz => by rw [hqz]; exact hbx) (hide fun wz hqz => hBx hqz) (hide fun wz hqz => hBx hqz) (hide fun wz hqz => hBx hqz) (hide hw0) (by decide)).mono ?_
      · rintro wz rfl
        exact brg_given none 0 0 [] hT rfl hD (by decide)
      · intro wz hqz
        refine hqz.X rfl hlt0 hao0 fun G hp hG hH => ?_
        refine (back_any xb S G [] none 0 0 wz hp rfl ⟨fun _ => rfl, fun h => absurd rfl h⟩ (by decide) (by simp)).mono ?_
        rintro e w' (⟨h1, _⟩ | ⟨_, he, hb⟩)
        · exact absurd h1 ht1
        · exact ⟨he, hb⟩
      · intro wz hqz
        refine hqz.Y hlt0 hao0 fun G hp hG hH => ?_
        obtain ⟨vS, vE, vN, vV, ES, NS, hp⟩ := hp
        refine (rbackends_any yb S G vS vE vN vV ES NS none 0 0 [] wz hp rfl hH (by decide) (by simp)).mono ?_
        rintro e w' (⟨h1, _⟩ | ⟨_, he, F', vS', hR, hS⟩)
        · rw [hal] at h1
          exact absurd h1 (by decide)
        · exact ⟨he, F', ⟨_, _, _, _, _, _, hR⟩, hS⟩
      · intro wz hqz
        exact brg_clean hbw hlt none 0 0 [] hqz rfl (by decide) hao0
      · rintro e w' ⟨rfl, hzz⟩
        exact ⟨rfl, _, hzz, nxt_back S _ hg (tblOf_len _) (tbl_bdL [])⟩
theorem pair_arrive (xb yb : Nat) (ee aa bb src dst proto id off : Int) (more : Bool) (sport dport : Int) (dso : Option Addr) (dsn dsc : Nat) (ao : Option Addr) (n cap : Nat) (w : World) (zs : List Int) (S : Cl) (F1 F2 : Nat → Prop) (h : Tw w xb yb S S F1 F2) (hg : Good S) (hl : zs.length = n) (hd : Has w ao zs) (hn : n ≤ 140737488351232) (hz : ∀ z ∈ zs, 0 ≤ z ∧ z ≤ 255) (hcap : n ≤ cap) (hcm : cap ≤ maxLen) (hc0 : ao = none → cap = 0) (hao : zs ≠ [] → ∀ a, ao = some a → ¬ (F1 a.block ∨ F2 a.block)) (hnx : S.next + 1 ≤ 1900000000000) :
    Calls Tryz.prog 20 #[.agg #[.pointer (some ⟨xb, 0, none⟩), .pointer (some ⟨yb, 0, none⟩)], .agg #[.int .i64 8, .int .i64 ee, .int .i64 aa, .int .i64 bb, .int .u16 src, .int .u16 dst, .int .u8 proto, .int .u16 id, .int .u8 off, .bool more, .int .u16 sport, .int .u16 dport, .slice dso dsn dsc, .slice ao n cap]] w fun e w' => e = .returned (.bool true) ∧ ∃ S', Aft w xb yb F1 F2 S' S' w' ∧ Nxt S S' := by
  have hn9 : n ≤ 9223372036854775807 := by omega
  have hlt := h.flt
  cases ao with
  | some aa1 =>
    have hbw := boxes_below w (.cells #[.pointer (some ⟨xb, 0, none⟩), .pointer (some ⟨yb, 0, none⟩)] 52) (.cells #[.int .i64 8, .int .i64 ee, .int .i64 aa, .int .i64 bb, .int .u16 src, .int .u16 dst, .int .u8 proto, .int .u16 id, .int .u8 off, .bool more, .int .u16 sport, .int .u16 dport, .slice dso dsn dsc, .slice (some aa1) n cap] 42)
    have hT := h.below hbw
    have hD := hd.below hbw
    have hbx := bx_start w #[.pointer (some ⟨xb, 0, none⟩), .pointer (some ⟨yb, 0, none⟩)] #[.int .i64 8, .int .i64 ee, .int .i64 aa, .int .i64 bb, .int .u16 src, .int .u16 dst, .int .u8 proto, .int .u16 id, .int .u8 off, .bool more, .int .u16 sport, .int .u16 dport, .slice dso dsn dsc, .slice (some aa1) n cap] 52 42
    generalize hw0 : ((w.alloc (.cells #[.pointer (some ⟨xb, 0, none⟩), .pointer (some ⟨yb, 0, none⟩)] 52)).alloc (.cells #[.int .i64 8, .int .i64 ee, .int .i64 aa, .int .i64 bb, .int .u16 src, .int .u16 dst, .int .u8 proto, .int .u16 id, .int .u8 off, .bool more, .int .u16 sport, .int .u16 dport, .slice dso dsn dsc, .slice (some aa1) n cap] 42)) = w0 at *
    have hlt0 : ∀ k, F1 k ∨ F2 k → k < w0.heap.size := hT.flt
    have hao0 : zs ≠ [] → ∀ a, (some aa1) = some a → ¬ (F1 a.block ∨ F2 a.block) ∧ a.block < w0.heap.size := fun hz a ha => ⟨hao hz a ha, by obtain ⟨b, o, h1, h2, _⟩ := hD.2 hz; rw [ha] at h1; simp only [Option.some.injEq] at h1; subst h1; exact h2⟩
    have hBx : ∀ {S1 S2 : Cl} {wz : World}, Brg w0 n (some aa1) zs xb yb F1 F2 S1 S2 wz → Bx w #[.pointer (some ⟨xb, 0, none⟩), .pointer (some ⟨yb, 0, none⟩)] #[.int .i64 8, .int .i64 ee, .int .i64 aa, .int .i64 bb, .int .u16 src, .int .u16 dst, .int .u8 proto, .int .u16 id, .int .u8 off, .bool more, .int .u16 sport, .int .u16 dport, .slice dso dsn dsc, .slice (some aa1) n cap] wz := by
      rintro S1 S2 wz ⟨C, _, _, hA, _⟩
      rw [← hw0] at hA
      exact hA.bxa hlt
    by_cases hk : aa < 0 ∨ S.reps ≤ aa
    · refine (brings_arrive_some xb yb ee aa bb src dst proto id off more sport dport dso dsn dsc aa1 n cap w w0.heap.size 0 1 (fun wz => wz = w0) (Brg w0 n (some aa1) zs xb yb F1 F2 S S) (Brg w0 n (some aa1) zs xb yb F1 F2 S S) (Brg w0 n (some aa1) zs xb yb F1 F2 S S) (Aft w xb yb F1 F2 S S) (hide ?_) (hide ?_) (hide ?_) (hide ?_) (hide fun wz hqz => by rw [hqz]; exact hbx) (hide fun wz hqz => hBx hqz) (hide fun wz hqz => hBx hqz) (hide fun wz hqz => hBx hqz) (hide hw0) hn).mono ?_
      · rintro wz rfl
        exact brg_given (some aa1) n cap zs hT hl hD hn
      · intro wz hqz
        refine hqz.X hl hlt0 hao0 fun G hp hG hH => ?_
        exact (arrive_no aa xb S G (some ⟨w0.heap.size, 0, none⟩) n (n + 8) wz hp hk).mono fun e w' ⟨he, hw⟩ => ⟨he, by rw [hw]; exact pr_stp hp (Below.refl _ _)⟩
      · intro wz hqz
        refine hqz.Y hlt0 hao0 fun G hp hG hH => ?_
        obtain ⟨vS, vE, vN, vV, ES, NS, hp⟩ := hp
        exact (rarrive_no aa yb S G vS vE vN vV ES NS (some aa1) n cap wz hp hk).mono fun e w' ⟨he, hw⟩ => ⟨he, by rw [hw]; exact rf_stp ⟨_, _, _, _, _, _, hp⟩ (Below.refl _ _)⟩
      · intro wz hqz
        exact brg_clean hbw hlt (some aa1) n cap zs hqz hl hn hao0
      · rintro e w' ⟨rfl, hz⟩
        exact ⟨rfl, S, hz, Nxt.same hg⟩
    · have hk0 : 0 ≤ aa ∧ aa < S.reps := by omega
      refine (brings_arrive_some xb yb ee aa bb src dst proto id off more sport dport dso dsn dsc aa1 n cap w w0.heap.size (S.next : Int) 0 (fun wz => wz = w0) (Brg w0 n (some aa1) zs xb yb F1 F2 S S) (Brg w0 n (some aa1) zs xb yb F1 F2 (arriveM S aa (upK zs)) S) (Brg w0 n (some aa1) zs xb yb F1 F2 (arriveM S aa (upK zs)) (arriveM S aa (upK zs))) (Aft w xb yb F1 F2 (arriveM S aa (upK zs)) (arriveM S aa (upK zs))) (hide ?_) (hide ?_) (hide ?_) (hide ?_) (hide fun wz hqz => by rw [hqz]; exact hbx) (hide fun wz hqz => hBx hqz) (hide fun wz hqz => hBx hqz) (hide fun wz hqz => hBx hqz) (hide hw0) hn).mono ?_
      · rintro wz rfl
        exact brg_given (some aa1) n cap zs hT hl hD hn
      · intro wz hqz
        refine hqz.X hl hlt0 hao0 fun G hp hG hH => ?_
        exact arrive_any xb S G aa zs (some ⟨w0.heap.size, 0, none⟩) n (n + 8) wz hp hg.sml hg.uq (by omega) hk0.1 hk0.2 hl (by omega) (by simp only [maxLen] at *; omega) hH hz (fun a ha => by simp only [Option.some.injEq] at ha; subst ha; exact hG)
      · intro wz hqz
        refine hqz.Y hlt0 hao0 fun G hp hG hH => ?_
        obtain ⟨vS, vE, vN, vV, ES, NS, hp⟩ := hp
        refine (rarrive_yes aa yb S G vS vE vN vV ES NS (some aa1) n cap zs wz hp hg.sml (by omega) hk0 hl (by omega) hcm hH hG hz).mono ?_
        rintro e w' ⟨he, F', vE', vN', vV', ES', NS', hR, hS⟩
        exact ⟨he, F', ⟨_, _, _, _, _, _, hR⟩, hS⟩
      · intro wz hqz
        exact brg_clean hbw hlt (some aa1) n cap zs hqz hl hn hao0
      · rintro e w' ⟨rfl, hzz⟩
        exact ⟨rfl, _, hzz, nxt_arrive S aa _ hg (by omega) (upK_ok zs hz)⟩
  | none =>
    obtain rfl := hd.1 rfl
    obtain rfl : n = 0 := by simpa using hl.symm
    obtain rfl := hc0 rfl
    have hbw := boxes_below w (.cells #[.pointer (some ⟨xb, 0, none⟩), .pointer (some ⟨yb, 0, none⟩)] 52) (.cells #[.int .i64 8, .int .i64 ee, .int .i64 aa, .int .i64 bb, .int .u16 src, .int .u16 dst, .int .u8 proto, .int .u16 id, .int .u8 off, .bool more, .int .u16 sport, .int .u16 dport, .slice dso dsn dsc, .slice none 0 0] 42)
    have hT := h.below hbw
    have hD := hd.below hbw
    have hbx := bx_start w #[.pointer (some ⟨xb, 0, none⟩), .pointer (some ⟨yb, 0, none⟩)] #[.int .i64 8, .int .i64 ee, .int .i64 aa, .int .i64 bb, .int .u16 src, .int .u16 dst, .int .u8 proto, .int .u16 id, .int .u8 off, .bool more, .int .u16 sport, .int .u16 dport, .slice dso dsn dsc, .slice none 0 0] 52 42
    generalize hw0 : ((w.alloc (.cells #[.pointer (some ⟨xb, 0, none⟩), .pointer (some ⟨yb, 0, none⟩)] 52)).alloc (.cells #[.int .i64 8, .int .i64 ee, .int .i64 aa, .int .i64 bb, .int .u16 src, .int .u16 dst, .int .u8 proto, .int .u16 id, .int .u8 off, .bool more, .int .u16 sport, .int .u16 dport, .slice dso dsn dsc, .slice none 0 0] 42)) = w0 at *
    have hlt0 : ∀ k, F1 k ∨ F2 k → k < w0.heap.size := hT.flt
    have hao0 : ([] : List Int) ≠ [] → ∀ a, (none : Option Addr) = some a → ¬ (F1 a.block ∨ F2 a.block) ∧ a.block < w0.heap.size := fun hz a ha => ⟨hao hz a ha, by obtain ⟨b, o, h1, h2, _⟩ := hD.2 hz; rw [ha] at h1; simp only [Option.some.injEq] at h1; subst h1; exact h2⟩
    have hBx : ∀ {S1 S2 : Cl} {wz : World}, Brg w0 0 none [] xb yb F1 F2 S1 S2 wz → Bx w #[.pointer (some ⟨xb, 0, none⟩), .pointer (some ⟨yb, 0, none⟩)] #[.int .i64 8, .int .i64 ee, .int .i64 aa, .int .i64 bb, .int .u16 src, .int .u16 dst, .int .u8 proto, .int .u16 id, .int .u8 off, .bool more, .int .u16 sport, .int .u16 dport, .slice dso dsn dsc, .slice none 0 0] wz := by
      rintro S1 S2 wz ⟨C, _, _, hA, _⟩
      rw [← hw0] at hA
      exact hA.bxa hlt
    by_cases hk : aa < 0 ∨ S.reps ≤ aa
    · refine (brings_arrive_nil xb yb ee aa bb src dst proto id off more sport dport dso dsn dsc w w0.heap.size 0 1 (fun wz => wz = w0) (Brg w0 0 none [] xb yb F1 F2 S S) (Brg w0 0 none [] xb yb F1 F2 S S) (Brg w0 0 none [] xb yb F1 F2 S S) (Aft w xb yb F1 F2 S S) (hide ?_) (hide ?_) (hide ?_) (hide ?_) (hide fun wz hqz => by rw [hqz]; exact hbx) (hide fun wz hqz => hBx hqz) (hide fun wz hqz => hBx hqz) (hide fun wz hqz => hBx hqz) (hide hw0) (by decide)).mono ?_
      · rintro wz rfl
        exact brg_given none 0 0 [] hT rfl hD (by decide)
      · intro wz hqz
        refine hqz.X rfl hlt0 hao0 fun G hp hG hH => ?_
        exact (arrive_no aa xb S G none 0 0 wz hp hk).mono fun e w' ⟨he, hw⟩ => ⟨he, by rw [hw]; exact pr_stp hp (Below.refl _ _)⟩
      · intro wz hqz
        refine hqz.Y hlt0 hao0 fun G hp hG hH => ?_
        obtain ⟨vS, vE, vN, vV, ES, NS, hp⟩ := hp
        exact (rarrive_no aa yb S G vS vE vN vV ES NS none 0 0 wz hp hk).mono fun e w' ⟨he, hw⟩ => ⟨he, by rw [hw]; exact rf_stp ⟨_, _, _, _, _, _, hp⟩ (Below.refl _ _)⟩
      · intro wz hqz
        exact brg_clean hbw hlt none 0 0 [] hqz rfl (by decide) hao0
      · rintro e w' ⟨rfl, hz⟩
        exact ⟨rfl, S, hz, Nxt.same hg⟩
    · have hk0 : 0 ≤ aa ∧ aa < S.reps := by omega
      refine (brings_arrive_nil xb yb ee aa bb src dst proto id off more sport dport dso dsn dsc w w0.heap.size (S.next : Int) 0 (fun wz => wz = w0) (Brg w0 0 none [] xb yb F1 F2 S S) (Brg w0 0 none [] xb yb F1 F2 (arriveM S aa (upK [])) S) (Brg w0 0 none [] xb yb F1 F2 (arriveM S aa (upK [])) (arriveM S aa (upK []))) (Aft w xb yb F1 F2 (arriveM S aa (upK [])) (arriveM S aa (upK []))) (hide ?_) (hide ?_) (hide ?_) (hide ?_) (hide fun wz hqz => by rw [hqz]; exact hbx) (hide fun wz hqz => hBx hqz) (hide fun wz hqz => hBx hqz) (hide fun wz hqz => hBx hqz) (hide hw0) (by decide)).mono ?_
      · rintro wz rfl
        exact brg_given none 0 0 [] hT rfl hD (by decide)
      · intro wz hqz
        refine hqz.X rfl hlt0 hao0 fun G hp hG hH => ?_
        exact arrive_any xb S G aa [] none 0 0 wz hp hg.sml hg.uq (by omega) hk0.1 hk0.2 rfl (by omega) (by decide) ⟨fun _ => rfl, fun h => absurd rfl h⟩ (by simp) (by simp)
      · intro wz hqz
        refine hqz.Y hlt0 hao0 fun G hp hG hH => ?_
        obtain ⟨vS, vE, vN, vV, ES, NS, hp⟩ := hp
        refine (rarrive_yes aa yb S G vS vE vN vV ES NS none 0 0 [] wz hp hg.sml (by omega) hk0 rfl (by omega) (by decide) hH hG (by simp)).mono ?_
        rintro e w' ⟨he, F', vE', vN', vV', ES', NS', hR, hS⟩
        exact ⟨he, F', ⟨_, _, _, _, _, _, hR⟩, hS⟩
      · intro wz hqz
        exact brg_clean hbw hlt none 0 0 [] hqz rfl (by decide) hao0
      · rintro e w' ⟨rfl, hzz⟩
        exact ⟨rfl, _, hzz, nxt_arrive S aa _ hg (by omega) (upK_ok [] (by simp))⟩

end Go.Proofs.YtajphdppmdoalaaGreat
