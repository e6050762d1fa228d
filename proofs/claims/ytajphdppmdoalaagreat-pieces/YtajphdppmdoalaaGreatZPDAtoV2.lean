import Derived.Test.YtajphdppmdoalaaGreatZPZ4toCA
import Derived.Test.YtajphdppmdoalaaGreatZPJ7toU1
import Derived.Test.YtajphdppmdoalaaGreatZPHtoLB
import Derived.Test.YtajphdppmdoalaaGreatZPMLtoR0
import Derived.Deep.RegionHeld3
namespace Go.Proofs.YtajphdppmdoalaaGreat
open Go.RowKit
set_option linter.unusedVariables false

/-- ferryref's cluster at yb reads as S; its blocks are F. -/
def RfIs (w : World) (yb : Nat) (S : Cl) (F : Nat → Prop) : Prop := ∃ vS vE vN vV ES NS, RefIs w yb S F vS vE vN vV ES NS
theorem RfIs.only {w w' : World} {yb : Nat} {S : Cl} {F G : Nat → Prop} (h : RfIs w yb S F) (ho : Only G w w') (hG : ∀ k, F k → ¬ G k) : RfIs w' yb S F := by
  obtain ⟨vS, vE, vN, vV, ES, NS, h⟩ := h
  exact ⟨vS, vE, vN, vV, ES, NS, h.only ho hG⟩
theorem RfIs.flt {w : World} {yb : Nat} {S : Cl} {F : Nat → Prop} (h : RfIs w yb S F) : ∀ k, F k → k < w.heap.size := by
  obtain ⟨_, _, _, _, _, _, h⟩ := h
  exact h.flt
theorem PrIs.flt {w : World} {xb : Nat} {S : Cl} {F : Nat → Prop} (h : PrIs w xb S F) : ∀ k, F k → k < w.heap.size := by
  obtain ⟨_, _, _, _, _, _, _, h, _⟩ := h
  exact h.flt
/-- A cluster of the program, which reads as S1, and one of the document, which reads as S2; they share no block. -/
structure Tw (w : World) (xb yb : Nat) (S1 S2 : Cl) (F1 F2 : Nat → Prop) : Prop where
  x : PrIs w xb S1 F1
  y : RfIs w yb S2 F2
  dis : ∀ k, F1 k → ¬ F2 k
theorem Tw.flt {w : World} {xb yb : Nat} {S1 S2 : Cl} {F1 F2 : Nat → Prop} (h : Tw w xb yb S1 S2 F1 F2) : ∀ k, F1 k ∨ F2 k → k < w.heap.size
  | k, .inl hk => h.x.flt k hk
  | k, .inr hk => h.y.flt k hk
theorem Tw.only {w w' : World} {xb yb : Nat} {S1 S2 : Cl} {F1 F2 G : Nat → Prop} (h : Tw w xb yb S1 S2 F1 F2) (ho : Only G w w') (hG : ∀ k, F1 k ∨ F2 k → ¬ G k) : Tw w' xb yb S1 S2 F1 F2 :=
  ⟨h.x.only ho (fun k hk => hG k (.inl hk)), h.y.only ho (fun k hk => hG k (.inr hk)), h.dis⟩
theorem Tw.below {w w' : World} {xb yb : Nat} {S1 S2 : Cl} {F1 F2 : Nat → Prop} (h : Tw w xb yb S1 S2 F1 F2) (hb : Below w.heap.size w w') : Tw w' xb yb S1 S2 F1 F2 :=
  h.only (G := fun _ => False) (Only.of_below hb) (fun _ _ f => f)
theorem Tw.stepX {w w' : World} {xb yb : Nat} {S1 S2 S1' : Cl} {F1 F2 F1' : Nat → Prop} (h : Tw w xb yb S1 S2 F1 F2) (hx : PrIs w' xb S1' F1') (hs : Stp w w' F1 F1') : Tw w' xb yb S1' S2 F1' F2 ∧ Stp w w' (fun k => F1 k ∨ F2 k) (fun k => F1' k ∨ F2 k) := by
  refine ⟨⟨hx, h.y.only hs.only (fun k hk hk' => h.dis k hk' hk), fun k hk hk' => ?_⟩, hs.only.mono (fun k _ hk => .inl hk), fun k hk => ?_⟩
  · rcases hs.own k hk with h1 | h1
    · exact h.dis k h1 hk'
    · have := h.y.flt k hk'
      omega
  · rcases hk with hk | hk
    · rcases hs.own k hk with h1 | h1
      · exact .inl (.inl h1)
      · exact .inr h1
    · exact .inl (.inr hk)
theorem Tw.stepY {w w' : World} {xb yb : Nat} {S1 S2 S2' : Cl} {F1 F2 F2' : Nat → Prop} (h : Tw w xb yb S1 S2 F1 F2) (hy : RfIs w' yb S2' F2') (hs : Stp w w' F2 F2') : Tw w' xb yb S1 S2' F1 F2' ∧ Stp w w' (fun k => F1 k ∨ F2 k) (fun k => F1 k ∨ F2' k) := by
  refine ⟨⟨h.x.only hs.only (fun k hk hk' => h.dis k hk hk'), hy, fun k hk hk' => ?_⟩, hs.only.mono (fun k _ hk => .inr hk), fun k hk => ?_⟩
  · rcases hs.own k hk' with h1 | h1
    · exact h.dis k hk h1
    · have := h.x.flt k hk
      omega
  · rcases hk with hk | hk
    · exact .inl (.inl hk)
    · rcases hs.own k hk with h1 | h1
      · exact .inl (.inr h1)
      · exact .inr h1
/-- Behind some calls of a pair: its two sides read as S1 and S2, and no other block was written. -/
def Aft (w : World) (xb yb : Nat) (F1 F2 : Nat → Prop) (S1 S2 : Cl) (w' : World) : Prop := ∃ F1' F2', Tw w' xb yb S1 S2 F1' F2' ∧ Stp w w' (fun k => F1 k ∨ F2 k) (fun k => F1' k ∨ F2' k)
theorem Aft.start {w : World} {xb yb : Nat} {S1 S2 : Cl} {F1 F2 : Nat → Prop} (h : Tw w xb yb S1 S2 F1 F2) : Aft w xb yb F1 F2 S1 S2 w := ⟨F1, F2, h, Stp.refl _ _⟩
theorem Aft.below {w wz w' : World} {xb yb : Nat} {S1 S2 : Cl} {F1 F2 : Nat → Prop} (h : Aft w xb yb F1 F2 S1 S2 wz) (hb : Below wz.heap.size wz w') : Aft w xb yb F1 F2 S1 S2 w' := by
  obtain ⟨G1, G2, ht, hs⟩ := h
  exact ⟨G1, G2, ht.below hb, hs.trans (Stp.below hb)⟩
theorem Aft.pre {w0 w wz : World} {xb yb : Nat} {S1 S2 : Cl} {F1 F2 : Nat → Prop} (h : Aft w xb yb F1 F2 S1 S2 wz) (hb : Below w0.heap.size w0 w) : Aft w0 xb yb F1 F2 S1 S2 wz := by
  obtain ⟨G1, G2, ht, hs⟩ := h
  exact ⟨G1, G2, ht, (Stp.below hb).trans hs⟩
theorem Aft.X {w wz : World} {xb yb : Nat} {S1 S2 S1' : Cl} {F1 F2 : Nat → Prop} {f : FuncId} {args : Array Value} {r : Ending} (h : Aft w xb yb F1 F2 S1 S2 wz)
    (hc : ∀ G, PrIs wz xb S1 G → (∀ k, G k → (F1 k ∨ F2 k) ∨ w.heap.size ≤ k) → Calls Tryz.prog f args wz fun e w' => e = r ∧ ∃ G', PrIs w' xb S1' G' ∧ Stp wz w' G G') : Calls Tryz.prog f args wz fun e w' => e = r ∧ Aft w xb yb F1 F2 S1' S2 w' := by
  obtain ⟨G1, G2, ht, hs⟩ := h
  refine (hc G1 ht.x (fun k hk => hs.own k (.inl hk))).mono ?_
  rintro e w' ⟨he, G', hp, hs'⟩
  obtain ⟨h1, h2⟩ := ht.stepX hp hs'
  exact ⟨he, G', G2, h1, hs.trans h2⟩
theorem Aft.Y {w wz : World} {xb yb : Nat} {S1 S2 S2' : Cl} {F1 F2 : Nat → Prop} {f : FuncId} {args : Array Value} {r : Ending} (h : Aft w xb yb F1 F2 S1 S2 wz)
    (hc : ∀ G, RfIs wz yb S2 G → (∀ k, G k → (F1 k ∨ F2 k) ∨ w.heap.size ≤ k) → Calls Tryz.prog f args wz fun e w' => e = r ∧ ∃ G', RfIs w' yb S2' G' ∧ Stp wz w' G G') : Calls Tryz.prog f args wz fun e w' => e = r ∧ Aft w xb yb F1 F2 S1 S2' w' := by
  obtain ⟨G1, G2, ht, hs⟩ := h
  refine (hc G2 ht.y (fun k hk => hs.own k (.inr hk))).mono ?_
  rintro e w' ⟨he, G', hp, hs'⟩
  obtain ⟨h1, h2⟩ := ht.stepY hp hs'
  exact ⟨he, G1, G', h1, hs.trans h2⟩
/-- A call that writes nothing of what lay there. -/
theorem Aft.BX {w wz : World} {xb yb : Nat} {S1 S2 : Cl} {F1 F2 : Nat → Prop} {f : FuncId} {args : Array Value} {r : Ending} (h : Aft w xb yb F1 F2 S1 S2 wz)
    (hc : ∀ G, PrIs wz xb S1 G → Calls Tryz.prog f args wz fun e w' => e = r ∧ Below wz.heap.size wz w') : Calls Tryz.prog f args wz fun e w' => e = r ∧ Aft w xb yb F1 F2 S1 S2 w' := by
  have h' := h
  obtain ⟨G1, G2, ht, hs⟩ := h
  exact (hc G1 ht.x).mono fun e w' ⟨he, hb⟩ => ⟨he, h'.below hb⟩
theorem Aft.BY {w wz : World} {xb yb : Nat} {S1 S2 : Cl} {F1 F2 : Nat → Prop} {f : FuncId} {args : Array Value} {r : Ending} (h : Aft w xb yb F1 F2 S1 S2 wz)
    (hc : ∀ G, RfIs wz yb S2 G → Calls Tryz.prog f args wz fun e w' => e = r ∧ Below wz.heap.size wz w') : Calls Tryz.prog f args wz fun e w' => e = r ∧ Aft w xb yb F1 F2 S1 S2 w' := by
  have h' := h
  obtain ⟨G1, G2, ht, hs⟩ := h
  exact (hc G2 ht.y).mono fun e w' ⟨he, hb⟩ => ⟨he, h'.below hb⟩
theorem Aft.bx {w wz : World} {xb yb : Nat} {S1 S2 : Cl} {F1 F2 : Nat → Prop} {A B : Array Value} {s t : TypeId} (h : Aft ((w.alloc (.cells A s)).alloc (.cells B t)) xb yb F1 F2 S1 S2 wz) (hlt : ∀ k, F1 k ∨ F2 k → k < w.heap.size) : Bx w A B wz := by
  obtain ⟨G1, G2, _, hs⟩ := h
  exact (bx_start w A B s t).only hs.only (fun hk => by have := hlt _ hk; omega) (fun hk => by have := hlt _ hk; omega)
theorem boxes_below (w : World) (A B : Obj) : Below w.heap.size w ((w.alloc A).alloc B) := ((Below.refl _ _).alloc (Nat.le_refl _) _).alloc (by simp) _
/-- What a step makes of a cluster. -/
def Nxt (S S' : Cl) : Prop := Good S' ∧ S'.next ≤ S.next + 1 ∧ S'.now ≤ S.now + 1
theorem Nxt.same {S : Cl} (h : Good S) : Nxt S S := ⟨h, by omega, by omega⟩
theorem nxt_deliver (S : Cl) (k : Nat) (h : Good S) : Nxt S (deliverM S k) := by
  refine ⟨good_deliver S k h, ?_, ?_⟩ <;> (unfold deliverM; split)
  · rw [(piece_same _ _ _).2.2.2.1]; simp [landM]
  · omega
  · rw [(piece_same _ _ _).2.2.1]; simp [landM]; omega
  · omega
theorem nxt_lose (S : Cl) (k : Nat) (h : Good S) : Nxt S (loseM S k) := by
  refine ⟨good_lose S k h, ?_, ?_⟩ <;> (unfold loseM; split)
  · simp [toldM, landM]
  · omega
  · simp [toldM, landM]; omega
  · omega
theorem nxt_take (S : Cl) (h : Good S) : Nxt S (takeM S) := ⟨good_take S h, by show S.next ≤ _; omega, by show S.now ≤ _; omega⟩
theorem nxt_back (S : Cl) (T : List Int) (h : Good S) (h1 : T = [] ∨ T.length = 31) (h2 : ∀ z ∈ T, 0 ≤ z ∧ z ≤ 255) : Nxt S (backM S T) := ⟨good_back S T h h1 h2, by show S.next ≤ _; omega, by show S.now ≤ _; omega⟩
theorem nxt_arrive (S : Cl) (rep : Int) (u : Option Pk) (h : Good S) (hn : S.next + 1 ≤ 2000000000000) (hu : ∀ p, u = some p → PkB p ∧ (wholePk p = false → PkOK p)) : Nxt S (arriveM S rep u) := by
  refine ⟨good_arrive S rep u h hn hu, ?_, ?_⟩ <;> (unfold arriveM; simp only; split)
  · exact Nat.le_refl _
  · split
    · split <;> exact Nat.le_refl _
    · split
      · rw [(piece_same _ _ _).2.2.2.1]; exact Nat.le_refl _
      · exact Nat.le_refl _
  · show S.now ≤ _; omega
  · split
    · split <;> (show S.now ≤ _; omega)
    · split
      · rw [(piece_same _ _ _).2.2.1]; show S.now ≤ _; omega
      · show S.now ≤ _; omega
theorem pair_lose (xb yb : Nat) (ee aa bb src dst proto id off : Int) (more : Bool) (sport dport : Int) (dso : Option Addr) (dsn dsc : Nat) (ao : Option Addr) (n cap : Nat) (w : World) (S : Cl) (F1 F2 : Nat → Prop) (h : Tw w xb yb S S F1 F2) (hg : Good S) (hn : S.next ≤ 1900000000000) :
    Calls Tryz.prog 22 #[.agg #[.pointer (some ⟨xb, 0, none⟩), .pointer (some ⟨yb, 0, none⟩)], .agg #[.int .i64 12, .int .i64 ee, .int .i64 aa, .int .i64 bb, .int .u16 src, .int .u16 dst, .int .u8 proto, .int .u16 id, .int .u8 off, .bool more, .int .u16 sport, .int .u16 dport, .slice dso dsn dsc, .slice ao n cap]] w fun e w' => e = .returned (.bool true) ∧ ∃ S', Aft w xb yb F1 F2 S' S' w' ∧ Nxt S S' := by
  have hA := Aft.start (h.below (boxes_below w (.cells #[.pointer (some ⟨xb, 0, none⟩), .pointer (some ⟨yb, 0, none⟩)] 52) (.cells #[.int .i64 12, .int .i64 ee, .int .i64 aa, .int .i64 bb, .int .u16 src, .int .u16 dst, .int .u8 proto, .int .u16 id, .int .u8 off, .bool more, .int .u16 sport, .int .u16 dport, .slice dso dsn dsc, .slice ao n cap] 42)))
  by_cases hk : aa < 0 ∨ (S.sent.length : Int) ≤ aa
  · refine (small_lose xb yb ee aa bb src dst proto id off more sport dport dso dsn dsc ao n cap w (Aft ((w.alloc (.cells #[.pointer (some ⟨xb, 0, none⟩), .pointer (some ⟨yb, 0, none⟩)] 52)).alloc (.cells #[.int .i64 12, .int .i64 ee, .int .i64 aa, .int .i64 bb, .int .u16 src, .int .u16 dst, .int .u8 proto, .int .u16 id, .int .u8 off, .bool more, .int .u16 sport, .int .u16 dport, .slice dso dsn dsc, .slice ao n cap] 42)) xb yb F1 F2 S S) (Aft ((w.alloc (.cells #[.pointer (some ⟨xb, 0, none⟩), .pointer (some ⟨yb, 0, none⟩)] 52)).alloc (.cells #[.int .i64 12, .int .i64 ee, .int .i64 aa, .int .i64 bb, .int .u16 src, .int .u16 dst, .int .u8 proto, .int .u16 id, .int .u8 off, .bool more, .int .u16 sport, .int .u16 dport, .slice dso dsn dsc, .slice ao n cap] 42)) xb yb F1 F2 S S) (Aft ((w.alloc (.cells #[.pointer (some ⟨xb, 0, none⟩), .pointer (some ⟨yb, 0, none⟩)] 52)).alloc (.cells #[.int .i64 12, .int .i64 ee, .int .i64 aa, .int .i64 bb, .int .u16 src, .int .u16 dst, .int .u8 proto, .int .u16 id, .int .u8 off, .bool more, .int .u16 sport, .int .u16 dport, .slice dso dsn dsc, .slice ao n cap] 42)) xb yb F1 F2 S S) 1 (hide ?_) (hide ?_) (hide fun wz hz => hz.bx h.flt) (hide fun wz hz => hz.bx h.flt) (hide hA)).mono ?_
    · intro wz hz
      exact hz.BX fun G hp => lose_no xb aa S G wz hp hk
    · intro wz hz
      refine hz.BY fun G hp => ?_
      obtain ⟨vS, vE, vN, vV, ES, NS, hp⟩ := hp
      have hl : NS.length = S.sent.length := by rw [← hp.hns, List.length_map]
      exact (rlose_no yb aa S G vS vE vN vV ES NS wz hp (by rw [hl]; exact hk)).mono fun e w' ⟨he, hw⟩ => ⟨he, by rw [hw]; exact Below.refl _ _⟩
    · rintro e w' ⟨rfl, hz⟩
      exact ⟨rfl, S, hz.pre (boxes_below w _ _), Nxt.same hg⟩
  · obtain ⟨k, rfl⟩ := Int.eq_ofNat_of_zero_le (show 0 ≤ aa by omega)
    have hkl : k < S.sent.length := by omega
    have hks := List.getElem?_eq_getElem hkl
    refine (small_lose xb yb ee (k : Int) bb src dst proto id off more sport dport dso dsn dsc ao n cap w (Aft ((w.alloc (.cells #[.pointer (some ⟨xb, 0, none⟩), .pointer (some ⟨yb, 0, none⟩)] 52)).alloc (.cells #[.int .i64 12, .int .i64 ee, .int .i64 (k : Int), .int .i64 bb, .int .u16 src, .int .u16 dst, .int .u8 proto, .int .u16 id, .int .u8 off, .bool more, .int .u16 sport, .int .u16 dport, .slice dso dsn dsc, .slice ao n cap] 42)) xb yb F1 F2 S S) (Aft ((w.alloc (.cells #[.pointer (some ⟨xb, 0, none⟩), .pointer (some ⟨yb, 0, none⟩)] 52)).alloc (.cells #[.int .i64 12, .int .i64 ee, .int .i64 (k : Int), .int .i64 bb, .int .u16 src, .int .u16 dst, .int .u8 proto, .int .u16 id, .int .u8 off, .bool more, .int .u16 sport, .int .u16 dport, .slice dso dsn dsc, .slice ao n cap] 42)) xb yb F1 F2 (loseM S k) S) (Aft ((w.alloc (.cells #[.pointer (some ⟨xb, 0, none⟩), .pointer (some ⟨yb, 0, none⟩)] 52)).alloc (.cells #[.int .i64 12, .int .i64 ee, .int .i64 (k : Int), .int .i64 bb, .int .u16 src, .int .u16 dst, .int .u8 proto, .int .u16 id, .int .u8 off, .bool more, .int .u16 sport, .int .u16 dport, .slice dso dsn dsc, .slice ao n cap] 42)) xb yb F1 F2 (loseM S k) (loseM S k)) 0 (hide ?_) (hide ?_) (hide fun wz hz => hz.bx h.flt) (hide fun wz hz => hz.bx h.flt) (hide hA)).mono ?_
    · intro wz hz
      exact hz.X fun G hp _ => lose_yes xb k S G _ wz hp hg.sml hks
    · intro wz hz
      refine hz.Y fun G hp _ => ?_
      obtain ⟨vS, vE, vN, vV, ES, NS, hp⟩ := hp
      have hl : NS.length = S.sent.length := by rw [← hp.hns, List.length_map]
      refine (rlose_yes yb k S G vS vE vN vV ES NS wz hp hg.sml (by omega)).mono ?_
      rintro e w' ⟨he, F', vN', vV', hR, hS⟩
      exact ⟨he, F', ⟨_, _, _, _, _, _, hR⟩, hS⟩
    · rintro e w' ⟨rfl, hz⟩
      exact ⟨rfl, loseM S k, hz.pre (boxes_below w _ _), nxt_lose S k hg⟩
theorem pair_held (xb yb : Nat) (ee aa bb src dst proto id off : Int) (more : Bool) (sport dport : Int) (dso : Option Addr) (dsn dsc : Nat) (ao : Option Addr) (n cap : Nat) (w : World) (S : Cl) (F1 F2 : Nat → Prop) (h : Tw w xb yb S S F1 F2) (hg : Good S) :
    Calls Tryz.prog 22 #[.agg #[.pointer (some ⟨xb, 0, none⟩), .pointer (some ⟨yb, 0, none⟩)], .agg #[.int .i64 13, .int .i64 ee, .int .i64 aa, .int .i64 bb, .int .u16 src, .int .u16 dst, .int .u8 proto, .int .u16 id, .int .u8 off, .bool more, .int .u16 sport, .int .u16 dport, .slice dso dsn dsc, .slice ao n cap]] w fun e w' => e = .returned (.bool true) ∧ ∃ S', Aft w xb yb F1 F2 S' S' w' ∧ Nxt S S' := by
  have hA := Aft.start (h.below (boxes_below w (.cells #[.pointer (some ⟨xb, 0, none⟩), .pointer (some ⟨yb, 0, none⟩)] 52) (.cells #[.int .i64 13, .int .i64 ee, .int .i64 aa, .int .i64 bb, .int .u16 src, .int .u16 dst, .int .u8 proto, .int .u16 id, .int .u8 off, .bool more, .int .u16 sport, .int .u16 dport, .slice dso dsn dsc, .slice ao n cap] 42)))
  by_cases hk : aa < 0 ∨ S.reps ≤ aa
  · refine (small_held xb yb ee aa bb src dst proto id off more sport dport dso dsn dsc ao n cap w (Aft ((w.alloc (.cells #[.pointer (some ⟨xb, 0, none⟩), .pointer (some ⟨yb, 0, none⟩)] 52)).alloc (.cells #[.int .i64 13, .int .i64 ee, .int .i64 aa, .int .i64 bb, .int .u16 src, .int .u16 dst, .int .u8 proto, .int .u16 id, .int .u8 off, .bool more, .int .u16 sport, .int .u16 dport, .slice dso dsn dsc, .slice ao n cap] 42)) xb yb F1 F2 S S) (Aft ((w.alloc (.cells #[.pointer (some ⟨xb, 0, none⟩), .pointer (some ⟨yb, 0, none⟩)] 52)).alloc (.cells #[.int .i64 13, .int .i64 ee, .int .i64 aa, .int .i64 bb, .int .u16 src, .int .u16 dst, .int .u8 proto, .int .u16 id, .int .u8 off, .bool more, .int .u16 sport, .int .u16 dport, .slice dso dsn dsc, .slice ao n cap] 42)) xb yb F1 F2 S S) (Aft ((w.alloc (.cells #[.pointer (some ⟨xb, 0, none⟩), .pointer (some ⟨yb, 0, none⟩)] 52)).alloc (.cells #[.int .i64 13, .int .i64 ee, .int .i64 aa, .int .i64 bb, .int .u16 src, .int .u16 dst, .int .u8 proto, .int .u16 id, .int .u8 off, .bool more, .int .u16 sport, .int .u16 dport, .slice dso dsn dsc, .slice ao n cap] 42)) xb yb F1 F2 S S) 0 0 0 1 (hide ?_) (hide fun wz w' hz hb => hz.below hb) (hide fun wz w' hz hb => hz.below hb) (hide ?_) (hide fun wz hz => hz.bx h.flt) (hide fun wz hz => hz.bx h.flt) (hide hA)).mono ?_
    · intro wz hz
      exact hz.BX fun G hp => held_no xb aa S G wz hp hk
    · intro wz hz
      obtain ⟨G1, G2, ht, hs⟩ := hz
      obtain ⟨vS, vE, vN, vV, ES, NS, hp⟩ := ht.y
      exact (rheld_no yb aa S G2 vS vE vN vV ES NS wz hp hk).mono fun e w' ⟨he, hb⟩ => ⟨he, Aft.below ⟨G1, G2, ht, hs⟩ hb, hb⟩
    · rintro e w' ⟨rfl, hz⟩
      exact ⟨rfl, S, hz.pre (boxes_below w _ _), Nxt.same hg⟩
  · obtain ⟨k, rfl⟩ := Int.eq_ofNat_of_zero_le (show 0 ≤ aa by omega)
    have hk2 : (k : Int) < S.reps := by omega
    refine (small_held xb yb ee (k : Int) bb src dst proto id off more sport dport dso dsn dsc ao n cap w (Aft ((w.alloc (.cells #[.pointer (some ⟨xb, 0, none⟩), .pointer (some ⟨yb, 0, none⟩)] 52)).alloc (.cells #[.int .i64 13, .int .i64 ee, .int .i64 (k : Int), .int .i64 bb, .int .u16 src, .int .u16 dst, .int .u8 proto, .int .u16 id, .int .u8 off, .bool more, .int .u16 sport, .int .u16 dport, .slice dso dsn dsc, .slice ao n cap] 42)) xb yb F1 F2 S S) (Aft ((w.alloc (.cells #[.pointer (some ⟨xb, 0, none⟩), .pointer (some ⟨yb, 0, none⟩)] 52)).alloc (.cells #[.int .i64 13, .int .i64 ee, .int .i64 (k : Int), .int .i64 bb, .int .u16 src, .int .u16 dst, .int .u8 proto, .int .u16 id, .int .u8 off, .bool more, .int .u16 sport, .int .u16 dport, .slice dso dsn dsc, .slice ao n cap] 42)) xb yb F1 F2 S S) (Aft ((w.alloc (.cells #[.pointer (some ⟨xb, 0, none⟩), .pointer (some ⟨yb, 0, none⟩)] 52)).alloc (.cells #[.int .i64 13, .int .i64 ee, .int .i64 (k : Int), .int .i64 bb, .int .u16 src, .int .u16 dst, .int .u8 proto, .int .u16 id, .int .u8 off, .bool more, .int .u16 sport, .int .u16 dport, .slice dso dsn dsc, .slice ao n cap] 42)) xb yb F1 F2 S S) ((entsM S k).length : Int) (heldN S k : Int) (heldB S k) 0 (hide ?_) (hide fun wz w' hz hb => hz.below hb) (hide fun wz w' hz hb => hz.below hb) (hide ?_) (hide fun wz hz => hz.bx h.flt) (hide fun wz hz => hz.bx h.flt) (hide hA)).mono ?_
    · intro wz hz
      exact hz.BX fun G hp => held_yes xb k S G wz hp hg.sml hk2
    · intro wz hz
      obtain ⟨G1, G2, ht, hs⟩ := hz
      obtain ⟨vS, vE, vN, vV, ES, NS, hp⟩ := ht.y
      exact (rheld_yes yb k S G2 vS vE vN vV ES NS wz hp (few_of_sml S hg.sml) ⟨Int.natCast_nonneg k, hk2⟩).mono fun e w' ⟨he, hb⟩ => ⟨he, Aft.below ⟨G1, G2, ht, hs⟩ hb, hb⟩
    · rintro e w' ⟨rfl, hz⟩
      exact ⟨rfl, S, hz.pre (boxes_below w _ _), Nxt.same hg⟩
end Go.Proofs.YtajphdppmdoalaaGreat

namespace Go.Proofs.YtajphdppmdoalaaGreat
open Go.RowKit
set_option linter.unusedVariables false

end Go.Proofs.YtajphdppmdoalaaGreat

namespace Go.Proofs.YtajphdppmdoalaaGreat
open Go.RowKit
set_option linter.unusedVariables false

end Go.Proofs.YtajphdppmdoalaaGreat
