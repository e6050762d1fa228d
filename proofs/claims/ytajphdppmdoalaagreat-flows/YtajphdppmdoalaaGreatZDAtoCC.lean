import Derived.Test.YtajphdppmdoalaaGreatZZ4toCA
import Derived.Test.YtajphdppmdoalaaGreatZJ7toU1
import Derived.Test.YtajphdppmdoalaaGreatZHtoLB
import Derived.Test.YtajphdppmdoalaaGreatZMLtoZ1
import Derived.Deep.RegionHeld3
namespace Go.Proofs.YtajphdppmdoalaaGreat
open Go.RowKit
set_option linter.unusedVariables false

/-- ferryref's cluster at yb reads as S; its blocks are F. -/
def RfIs (w : World) (yb : Nat) (S : Cl) (F : Nat → Prop) : Prop := ∃ vS vE vN vV ES NS, RefIs w yb S F vS vE vN vV ES NS
theorem RfIs.only {w w' : World} {yb : Nat} {S : Cl} {F G : Nat → Prop} (h : RfIs w yb S F) (ho : Only G w w') (hG : ∀ k, F k → ¬ G k) : RfIs w' yb S F := by
  obtain ⟨vS, vE, vN, vV, ES, NS, h⟩ := h
  exact ⟨vS, vE, vN, vV, ES, NS, h.only ho hG⟩
theorem RfIs.flt {w : World} {yb : Nat} {S : Cl} {F : Nat → Prop} (h : RfIs w yb S F) : ∀ k, F k → k < w.heap.size := by
  obtain ⟨_, _, _, _, _, _, h⟩ := h
  exact h.flt
theorem PrIs.flt {w : World} {xb : Nat} {S : Cl} {F : Nat → Prop} (h : PrIs w xb S F) : ∀ k, F k → k < w.heap.size := by
  obtain ⟨_, _, _, _, _, _, _, h, _⟩ := h
  exact h.flt
/-- A cluster of the program, which reads as S1, and one of the document, which reads as S2; they share no block. -/
structure Tw (w : World) (xb yb : Nat) (S1 S2 : Cl) (F1 F2 : Nat → Prop) : Prop where
  x : PrIs w xb S1 F1
  y : RfIs w yb S2 F2
  dis : ∀ k, F1 k → ¬ F2 k
theorem Tw.flt {w : World} {xb yb : Nat} {S1 S2 : Cl} {F1 F2 : Nat → Prop} (h : Tw w xb yb S1 S2 F1 F2) : ∀ k, F1 k ∨ F2 k → k < w.heap.size
  | k, .inl hk => h.x.flt k hk
  | k, .inr hk => h.y.flt k hk
theorem Tw.only {w w' : World} {xb yb : Nat} {S1 S2 : Cl} {F1 F2 G : Nat → Prop} (h : Tw w xb yb S1 S2 F1 F2) (ho : Only G w w') (hG : ∀ k, F1 k ∨ F2 k → ¬ G k) : Tw w' xb yb S1 S2 F1 F2 :=
  ⟨h.x.only ho (fun k hk => hG k (.inl hk)), h.y.only ho (fun k hk => hG k (.inr hk)), h.dis⟩
theorem Tw.below {w w' : World} {xb yb : Nat} {S1 S2 : Cl} {F1 F2 : Nat → Prop} (h : Tw w xb yb S1 S2 F1 F2) (hb : Below w.heap.size w w') : Tw w' xb yb S1 S2 F1 F2 :=
  h.only (G := fun _ => False) (Only.of_below hb) (fun _ _ f => f)
theorem Tw.stepX {w w' : World} {xb yb : Nat} {S1 S2 S1' : Cl} {F1 F2 F1' : Nat → Prop} (h : Tw w xb yb S1 S2 F1 F2) (hx : PrIs w' xb S1' F1') (hs : Stp w w' F1 F1') : Tw w' xb yb S1' S2 F1' F2 ∧ Stp w w' (fun k => F1 k ∨ F2 k) (fun k => F1' k ∨ F2 k) := by
  refine ⟨⟨hx, h.y.only hs.only (fun k hk hk' => h.dis k hk' hk), fun k hk hk' => ?_⟩, hs.only.mono (fun k _ hk => .inl hk), fun k hk => ?_⟩
  · rcases hs.own k hk with h1 | h1
    · exact h.dis k h1 hk'
    · have := h.y.flt k hk'
      omega
  · rcases hk with hk | hk
    · rcases hs.own k hk with h1 | h1
      · exact .inl (.inl h1)
      · exact .inr h1
    · exact .inl (.inr hk)
theorem Tw.stepY {w w' : World} {xb yb : Nat} {S1 S2 S2' : Cl} {F1 F2 F2' : Nat → Prop} (h : Tw w xb yb S1 S2 F1 F2) (hy : RfIs w' yb S2' F2') (hs : Stp w w' F2 F2') : Tw w' xb yb S1 S2' F1 F2' ∧ Stp w w' (fun k => F1 k ∨ F2 k) (fun k => F1 k ∨ F2' k) := by
  refine ⟨⟨h.x.only hs.only (fun k hk hk' => h.dis k hk hk'), hy, fun k hk hk' => ?_⟩, hs.only.mono (fun k _ hk => .inr hk), fun k hk => ?_⟩
  · rcases hs.own k hk' with h1 | h1
    · exact h.dis k hk h1
    · have := h.x.flt k hk
      omega
  · rcases hk with hk | hk
    · exact .inl (.inl hk)
    · rcases hs.own k hk with h1 | h1
      · exact .inl (.inr h1)
      · exact .inr h1
/-- Behind some calls of a pair: its two sides read as S1 and S2, and no other block was written. -/
def Aft (w : World) (xb yb : Nat) (F1 F2 : Nat → Prop) (S1 S2 : Cl) (w' : World) : Prop := ∃ F1' F2', Tw w' xb yb S1 S2 F1' F2' ∧ Stp w w' (fun k => F1 k ∨ F2 k) (fun k => F1' k ∨ F2' k)
theorem Aft.start {w : World} {xb yb : Nat} {S1 S2 : Cl} {F1 F2 : Nat → Prop} (h : Tw w xb yb S1 S2 F1 F2) : Aft w xb yb F1 F2 S1 S2 w := ⟨F1, F2, h, Stp.refl _ _⟩
theorem Aft.below {w wz w' : World} {xb yb : Nat} {S1 S2 : Cl} {F1 F2 : Nat → Prop} (h : Aft w xb yb F1 F2 S1 S2 wz) (hb : Below wz.heap.size wz w') : Aft w xb yb F1 F2 S1 S2 w' := by
  obtain ⟨G1, G2, ht, hs⟩ := h
  exact ⟨G1, G2, ht.below hb, hs.trans (Stp.below hb)⟩
theorem Aft.pre {w0 w wz : World} {xb yb : Nat} {S1 S2 : Cl} {F1 F2 : Nat → Prop} (h : Aft w xb yb F1 F2 S1 S2 wz) (hb : Below w0.heap.size w0 w) : Aft w0 xb yb F1 F2 S1 S2 wz := by
  obtain ⟨G1, G2, ht, hs⟩ := h
  exact ⟨G1, G2, ht, (Stp.below hb).trans hs⟩
/-- A call that writes nothing of what lay there. -/
theorem Aft.BX {w wz : World} {xb yb : Nat} {S1 S2 : Cl} {F1 F2 : Nat → Prop} {f : FuncId} {args : Array Value} {r : Ending} (h : Aft w xb yb F1 F2 S1 S2 wz)
    (hc : ∀ G, PrIs wz xb S1 G → Calls Tryz.prog f args wz fun e w' => e = r ∧ Below wz.heap.size wz w') : Calls Tryz.prog f args wz fun e w' => e = r ∧ Aft w xb yb F1 F2 S1 S2 w' := by
  have h' := h
  obtain ⟨G1, G2, ht, hs⟩ := h
  exact (hc G1 ht.x).mono fun e w' ⟨he, hb⟩ => ⟨he, h'.below hb⟩
theorem Aft.BY {w wz : World} {xb yb : Nat} {S1 S2 : Cl} {F1 F2 : Nat → Prop} {f : FuncId} {args : Array Value} {r : Ending} (h : Aft w xb yb F1 F2 S1 S2 wz)
    (hc : ∀ G, RfIs wz yb S2 G → Calls Tryz.prog f args wz fun e w' => e = r ∧ Below wz.heap.size wz w') : Calls Tryz.prog f args wz fun e w' => e = r ∧ Aft w xb yb F1 F2 S1 S2 w' := by
  have h' := h
  obtain ⟨G1, G2, ht, hs⟩ := h
  exact (hc G2 ht.y).mono fun e w' ⟨he, hb⟩ => ⟨he, h'.below hb⟩
theorem Aft.bx {w wz : World} {xb yb : Nat} {S1 S2 : Cl} {F1 F2 : Nat → Prop} {A B : Array Value} {s t : TypeId} (h : Aft ((w.alloc (.cells A s)).alloc (.cells B t)) xb yb F1 F2 S1 S2 wz) (hlt : ∀ k, F1 k ∨ F2 k → k < w.heap.size) : Bx w A B wz := by
  obtain ⟨G1, G2, _, hs⟩ := h
  exact (bx_start w A B s t).only hs.only (fun hk => by have := hlt _ hk; omega) (fun hk => by have := hlt _ hk; omega)
theorem boxes_below (w : World) (A B : Obj) : Below w.heap.size w ((w.alloc A).alloc B) := ((Below.refl _ _).alloc (Nat.le_refl _) _).alloc (by simp) _
/-- What a step makes of a cluster. -/
def Nxt (S S' : Cl) : Prop := Good S' ∧ S'.next ≤ S.next + 1 ∧ S'.now ≤ S.now + 1
theorem Nxt.same {S : Cl} (h : Good S) : Nxt S S := ⟨h, by omega, by omega⟩
theorem nxt_take (S : Cl) (h : Good S) : Nxt S (takeM S) := ⟨good_take S h, by show S.next ≤ _; omega, by show S.now ≤ _; omega⟩
theorem nxt_back (S : Cl) (T : List Int) (h : Good S) (h1 : T = [] ∨ T.length = 31) (h2 : ∀ z ∈ T, 0 ≤ z ∧ z ≤ 255) : Nxt S (backM S T) := ⟨good_back S T h h1 h2, by show S.next ≤ _; omega, by show S.now ≤ _; omega⟩
theorem nxt_arrive (S : Cl) (rep : Int) (u : Option Pk) (h : Good S) (hn : S.next + 1 ≤ 2000000000000) (hu : ∀ p, u = some p → PkB p ∧ (wholePk p = false → PkOK p)) : Nxt S (arriveM S rep u) := by
  refine ⟨good_arrive S rep u h hn hu, ?_, ?_⟩ <;> (unfold arriveM; simp only; split)
  · exact Nat.le_refl _
  · split
    · split <;> exact Nat.le_refl _
    · split
      · rw [(piece_same _ _ _).2.2.2.1]; exact Nat.le_refl _
      · exact Nat.le_refl _
  · show S.now ≤ _; omega
  · split
    · split <;> (show S.now ≤ _; omega)
    · split
      · rw [(piece_same _ _ _).2.2.1]; show S.now ≤ _; omega
      · show S.now ≤ _; omega
theorem pair_choose (xb yb : Nat) (ee aa bb src dst proto id off : Int) (more : Bool) (sport dport : Int) (dso : Option Addr) (dsn dsc : Nat) (ao : Option Addr) (n cap : Nat) (w : World) (S : Cl) (F1 F2 : Nat → Prop) (h : Tw w xb yb S S F1 F2) (hg : Good S) (hsrc : 0 ≤ src ∧ src ≤ 65535) (hdst : 0 ≤ dst ∧ dst ≤ 65535) (hproto : 0 ≤ proto ∧ proto ≤ 255) (hid : 0 ≤ id ∧ id ≤ 65535) (hoff : 0 ≤ off ∧ off ≤ 255) (hsport : 0 ≤ sport ∧ sport ≤ 65535) (hdport : 0 ≤ dport ∧ dport ≤ 65535) :
    Calls Tryz.prog 22 #[.agg #[.pointer (some ⟨xb, 0, none⟩), .pointer (some ⟨yb, 0, none⟩)], .agg #[.int .i64 7, .int .i64 ee, .int .i64 aa, .int .i64 bb, .int .u16 src, .int .u16 dst, .int .u8 proto, .int .u16 id, .int .u8 off, .bool more, .int .u16 sport, .int .u16 dport, .slice dso dsn dsc, .slice ao n cap]] w fun e w' => e = .returned (.bool true) ∧ ∃ S', Aft w xb yb F1 F2 S' S' w' ∧ Nxt S S' := by
  have hA := Aft.start (h.below (boxes_below w (.cells #[.pointer (some ⟨xb, 0, none⟩), .pointer (some ⟨yb, 0, none⟩)] 52) (.cells #[.int .i64 7, .int .i64 ee, .int .i64 aa, .int .i64 bb, .int .u16 src, .int .u16 dst, .int .u8 proto, .int .u16 id, .int .u8 off, .bool more, .int .u16 sport, .int .u16 dport, .slice dso dsn dsc, .slice ao n cap] 42)))
  have hR := And.intro hg.sml.cok.reps hg.sml.reps
  refine (small_choose xb yb ee aa bb src dst proto id off more sport dport dso dsn dsc ao n cap w (Aft ((w.alloc (.cells #[.pointer (some ⟨xb, 0, none⟩), .pointer (some ⟨yb, 0, none⟩)] 52)).alloc (.cells #[.int .i64 7, .int .i64 ee, .int .i64 aa, .int .i64 bb, .int .u16 src, .int .u16 dst, .int .u8 proto, .int .u16 id, .int .u8 off, .bool more, .int .u16 sport, .int .u16 dport, .slice dso dsn dsc, .slice ao n cap] 42)) xb yb F1 F2 S S) (Aft ((w.alloc (.cells #[.pointer (some ⟨xb, 0, none⟩), .pointer (some ⟨yb, 0, none⟩)] 52)).alloc (.cells #[.int .i64 7, .int .i64 ee, .int .i64 aa, .int .i64 bb, .int .u16 src, .int .u16 dst, .int .u8 proto, .int .u16 id, .int .u8 off, .bool more, .int .u16 sport, .int .u16 dport, .slice dso dsn dsc, .slice ao n cap] 42)) xb yb F1 F2 S S) (Aft ((w.alloc (.cells #[.pointer (some ⟨xb, 0, none⟩), .pointer (some ⟨yb, 0, none⟩)] 52)).alloc (.cells #[.int .i64 7, .int .i64 ee, .int .i64 aa, .int .i64 bb, .int .u16 src, .int .u16 dst, .int .u8 proto, .int .u16 id, .int .u8 off, .bool more, .int .u16 sport, .int .u16 dport, .slice dso dsn dsc, .slice ao n cap] 42)) xb yb F1 F2 S S) (S.slots.getD ((flH src dst proto sport dport).toNat % 31) 0) (if (!S.slots.isEmpty) = true then 0 else 7) (dgH src dst proto id % S.reps) (hide ?_) (hide ?_) (hide ?_) (hide ?_) (hide fun wz hz => hz.bx h.flt) (hide fun wz hz => hz.bx h.flt) (hide hA)).mono ?_
  · intro wz hz
    refine hz.BX fun G hp => ?_
    obtain ⟨gS, cs, vT, vV, vN, RR, Fs, hp, hr, he⟩ := hp
    exact choose_any xb S G gS cs vT vV vN RR Fs _ src dst proto id off more sport dport dso dsn dsc wz hp hg.sml.slots hsrc.1 hsrc.2 hdst.1 hdst.2 hproto.1 hproto.2 hid.1 hid.2 hoff.1 hoff.2 hsport.1 hsport.2 hdport.1 hdport.2
  · intro wz hz
    refine hz.BY fun G hp => ?_
    obtain ⟨vS, vE, vN, vV, ES, NS, hp⟩ := hp
    rcases hg.sml.slots with hs | hs
    · rw [hs]
      exact rchoose_no yb S G vS vE vN vV ES NS src dst proto id off more sport dport dso dsn dsc wz hp hs
    · have hne : S.slots.isEmpty = false := by cases hss : S.slots with | nil => rw [hss] at hs; simp at hs | cons a b => rfl
      rw [hne]
      exact rchoose_yes yb S G vS vE vN vV ES NS src dst proto id off more sport dport dso dsn dsc wz hp hs hsrc hdst hproto hid hsport hdport
  · intro wz hz
    refine hz.BX fun G hp => ?_
    obtain ⟨gS, cs, vT, vV, vN, RR, Fs, hp, hr, he⟩ := hp
    rw [hr]
    rw [hr] at hR
    exact owner_any xb S G gS cs vT vV vN RR Fs _ src dst proto id off more sport dport dso dsn dsc wz hp (by omega) (by omega) hsrc.1 hsrc.2 hdst.1 hdst.2 hproto.1 hproto.2 hid.1 hid.2 hoff.1 hoff.2 hsport.1 hsport.2 hdport.1 hdport.2
  · intro wz hz
    refine hz.BY fun G hp => ?_
    obtain ⟨vS, vE, vN, vV, ES, NS, hp⟩ := hp
    exact rowner_any yb src dst proto id off more sport dport dso dsn dsc S.reps wz hsrc hdst hproto hid hsport hdport hR (arr_cell hp.blk 0) hp.lt
  · rintro e w' ⟨rfl, hz⟩
    exact ⟨rfl, S, hz.pre (boxes_below w _ _), Nxt.same hg⟩

end Go.Proofs.YtajphdppmdoalaaGreat

namespace Go.Proofs.YtajphdppmdoalaaGreat
open Go.RowKit
set_option linter.unusedVariables false

end Go.Proofs.YtajphdppmdoalaaGreat

namespace Go.Proofs.YtajphdppmdoalaaGreat
open Go.RowKit
set_option linter.unusedVariables false

end Go.Proofs.YtajphdppmdoalaaGreat

namespace Go.Proofs.YtajphdppmdoalaaGreat
open Go.RowKit
set_option linter.unusedVariables false

set_option maxRecDepth 100000 in
set_option maxHeartbeats 1600000 in
theorem brings_backends_some (xb yb : Nat) (ee aa bb src dst proto id off : Int) (more : Bool) (sport dport : Int) (dso : Option Addr) (dsn dsc : Nat) (aa1 : Addr) (n cap : Nat) (w : World) (ga : Nat) (rr er : Int) (Q0 Q1 Q2 Q3 Q4 : World → Prop)
    (HG : Hid (∀ wz, Q0 wz → Calls Tryz.prog 26 #[.slice (some aa1) n cap] wz fun e w' => e = .returned (.slice (some ⟨ga, 0, none⟩) (n + 8) (n + 8)) ∧ Q1 w'))
    (HX : Hid (∀ wz, Q1 wz → Calls Tryz.prog 38 #[.pointer (some ⟨xb, 0, none⟩), .slice (some ⟨ga, 0, none⟩) n (n + 8)] wz fun e w' => e = .returned (.int .i64 er) ∧ Q2 w'))
    (HY : Hid (∀ wz, Q2 wz → Calls Tryz.prog 39 #[.pointer (some ⟨yb, 0, none⟩), .slice (some aa1) n cap] wz fun e w' => e = .returned (.int .i64 er) ∧ Q3 w'))
    (HC : Hid (∀ wz, Q3 wz → Calls Tryz.prog 29 #[.slice (some ⟨ga, 0, none⟩) (n + 8) (n + 8), .slice (some aa1) n cap] wz fun e w' => e = .returned (.bool true) ∧ Q4 w'))
    (HB0 : Hid (∀ wz, Q0 wz → Bx w #[.pointer (some ⟨xb, 0, none⟩), .pointer (some ⟨yb, 0, none⟩)] #[.int .i64 6, .int .i64 ee, .int .i64 aa, .int .i64 bb, .int .u16 src, .int .u16 dst, .int .u8 proto, .int .u16 id, .int .u8 off, .bool more, .int .u16 sport, .int .u16 dport, .slice dso dsn dsc, .slice (some aa1) n cap] wz)) (HB1 : Hid (∀ wz, Q1 wz → Bx w #[.pointer (some ⟨xb, 0, none⟩), .pointer (some ⟨yb, 0, none⟩)] #[.int .i64 6, .int .i64 ee, .int .i64 aa, .int .i64 bb, .int .u16 src, .int .u16 dst, .int .u8 proto, .int .u16 id, .int .u8 off, .bool more, .int .u16 sport, .int .u16 dport, .slice dso dsn dsc, .slice (some aa1) n cap] wz)) (HB2 : Hid (∀ wz, Q2 wz → Bx w #[.pointer (some ⟨xb, 0, none⟩), .pointer (some ⟨yb, 0, none⟩)] #[.int .i64 6, .int .i64 ee, .int .i64 aa, .int .i64 bb, .int .u16 src, .int .u16 dst, .int .u8 proto, .int .u16 id, .int .u8 off, .bool more, .int .u16 sport, .int .u16 dport, .slice dso dsn dsc, .slice (some aa1) n cap] wz)) (HB3 : Hid (∀ wz, Q3 wz → Bx w #[.pointer (some ⟨xb, 0, none⟩), .pointer (some ⟨yb, 0, none⟩)] #[.int .i64 6, .int .i64 ee, .int .i64 aa, .int .i64 bb, .int .u16 src, .int .u16 dst, .int .u8 proto, .int .u16 id, .int .u8 off, .bool more, .int .u16 sport, .int .u16 dport, .slice dso dsn dsc, .slice (some aa1) n cap] wz))
    (H0 : Hid (Q0 ((w.alloc (.cells #[.pointer (some ⟨xb, 0, none⟩), .pointer (some ⟨yb, 0, none⟩)] 52)).alloc (.cells #[.int .i64 6, .int .i64 ee, .int .i64 aa, .int .i64 bb, .int .u16 src, .int .u16 dst, .int .u8 proto, .int .u16 id, .int .u8 off, .bool more, .int .u16 sport, .int .u16 dport, .slice dso dsn dsc, .slice (some aa1) n cap] 42)))) (hn : n ≤ 140737488351232) :
    Calls Tryz.prog 20 #[.agg #[.pointer (some ⟨xb, 0, none⟩), .pointer (some ⟨yb, 0, none⟩)], .agg #[.int .i64 6, .int .i64 ee, .int .i64 aa, .int .i64 bb, .int .u16 src, .int .u16 dst, .int .u8 proto, .int .u16 id, .int .u8 off, .bool more, .int .u16 sport, .int .u16 dport, .slice dso dsn dsc, .slice (some aa1) n cap]] w fun e w' => e = .returned (.bool true) ∧ Q4 w' := by
  have heq := fun wx => Lib.run_eql_slice_nil (P := Tryz.prog) wx 38 5 (some aa1) n cap 0 0 Tryz.underlying38
  go_enter Tryz.func20, Tryz.ntmps20
  go_wp2_with fail
  generalize ((w.alloc (.cells #[.pointer (some ⟨xb, 0, none⟩), .pointer (some ⟨yb, 0, none⟩)] 52)).alloc (.cells #[.int .i64 6, .int .i64 ee, .int .i64 aa, .int .i64 bb, .int .u16 src, .int .u16 dst, .int .u8 proto, .int .u16 id, .int .u8 off, .bool more, .int .u16 sport, .int .u16 dport, .slice dso dsn dsc, .slice (some aa1) n cap] 42)) = w2 at *
  obtain ⟨c1, h2, c2⟩ := HB0.out w2 H0.out
  have hh : w.heap.size < w2.heap.size := by omega
  go_wp2_with fail
  refine (HG.out w2 H0.out).mono ?_
  rintro e w3 ⟨rfl, q1⟩
  clear c1 c2 h2 hh
  obtain ⟨c1, h2, c2⟩ := HB1.out w3 q1
  go_wp2_with fail
  refine (HX.out w3 q1).mono ?_
  rintro e w4 ⟨rfl, q2⟩
  clear c1 c2 h2 q1
  obtain ⟨c1, h2, c2⟩ := HB2.out w4 q2
  go_wp2_with fail
  refine (HY.out w4 q2).mono ?_
  rintro e w5 ⟨rfl, q3⟩
  clear c1 c2 h2 q2
  obtain ⟨c1, h2, c2⟩ := HB3.out w5 q3
  go_wp2_with fail
  refine (HC.out w5 q3).mono ?_
  rintro e w6 ⟨rfl, q4⟩
  clear c1 c2 h2 q3
  go_wp2
  go_ret
  exact ⟨by simp, q4⟩
set_option maxRecDepth 100000 in
set_option maxHeartbeats 1600000 in
theorem brings_arrive_some (xb yb : Nat) (ee aa bb src dst proto id off : Int) (more : Bool) (sport dport : Int) (dso : Option Addr) (dsn dsc : Nat) (aa1 : Addr) (n cap : Nat) (w : World) (ga : Nat) (rr er : Int) (Q0 Q1 Q2 Q3 Q4 : World → Prop)
    (HG : Hid (∀ wz, Q0 wz → Calls Tryz.prog 26 #[.slice (some aa1) n cap] wz fun e w' => e = .returned (.slice (some ⟨ga, 0, none⟩) (n + 8) (n + 8)) ∧ Q1 w'))
    (HX : Hid (∀ wz, Q1 wz → Calls Tryz.prog 40 #[.pointer (some ⟨xb, 0, none⟩), .int .i64 aa, .slice (some ⟨ga, 0, none⟩) n (n + 8)] wz fun e w' => e = .returned (.tuple #[.int .i64 rr, .int .i64 er]) ∧ Q2 w'))
    (HY : Hid (∀ wz, Q2 wz → Calls Tryz.prog 41 #[.pointer (some ⟨yb, 0, none⟩), .int .i64 aa, .slice (some aa1) n cap] wz fun e w' => e = .returned (.tuple #[.int .i64 rr, .int .i64 er]) ∧ Q3 w'))
    (HC : Hid (∀ wz, Q3 wz → Calls Tryz.prog 29 #[.slice (some ⟨ga, 0, none⟩) (n + 8) (n + 8), .slice (some aa1) n cap] wz fun e w' => e = .returned (.bool true) ∧ Q4 w'))
    (HB0 : Hid (∀ wz, Q0 wz → Bx w #[.pointer (some ⟨xb, 0, none⟩), .pointer (some ⟨yb, 0, none⟩)] #[.int .i64 8, .int .i64 ee, .int .i64 aa, .int .i64 bb, .int .u16 src, .int .u16 dst, .int .u8 proto, .int .u16 id, .int .u8 off, .bool more, .int .u16 sport, .int .u16 dport, .slice dso dsn dsc, .slice (some aa1) n cap] wz)) (HB1 : Hid (∀ wz, Q1 wz → Bx w #[.pointer (some ⟨xb, 0, none⟩), .pointer (some ⟨yb, 0, none⟩)] #[.int .i64 8, .int .i64 ee, .int .i64 aa, .int .i64 bb, .int .u16 src, .int .u16 dst, .int .u8 proto, .int .u16 id, .int .u8 off, .bool more, .int .u16 sport, .int .u16 dport, .slice dso dsn dsc, .slice (some aa1) n cap] wz)) (HB2 : Hid (∀ wz, Q2 wz → Bx w #[.pointer (some ⟨xb, 0, none⟩), .pointer (some ⟨yb, 0, none⟩)] #[.int .i64 8, .int .i64 ee, .int .i64 aa, .int .i64 bb, .int .u16 src, .int .u16 dst, .int .u8 proto, .int .u16 id, .int .u8 off, .bool more, .int .u16 sport, .int .u16 dport, .slice dso dsn dsc, .slice (some aa1) n cap] wz)) (HB3 : Hid (∀ wz, Q3 wz → Bx w #[.pointer (some ⟨xb, 0, none⟩), .pointer (some ⟨yb, 0, none⟩)] #[.int .i64 8, .int .i64 ee, .int .i64 aa, .int .i64 bb, .int .u16 src, .int .u16 dst, .int .u8 proto, .int .u16 id, .int .u8 off, .bool more, .int .u16 sport, .int .u16 dport, .slice dso dsn dsc, .slice (some aa1) n cap] wz))
    (H0 : Hid (Q0 ((w.alloc (.cells #[.pointer (some ⟨xb, 0, none⟩), .pointer (some ⟨yb, 0, none⟩)] 52)).alloc (.cells #[.int .i64 8, .int .i64 ee, .int .i64 aa, .int .i64 bb, .int .u16 src, .int .u16 dst, .int .u8 proto, .int .u16 id, .int .u8 off, .bool more, .int .u16 sport, .int .u16 dport, .slice dso dsn dsc, .slice (some aa1) n cap] 42)))) (hn : n ≤ 140737488351232) :
    Calls Tryz.prog 20 #[.agg #[.pointer (some ⟨xb, 0, none⟩), .pointer (some ⟨yb, 0, none⟩)], .agg #[.int .i64 8, .int .i64 ee, .int .i64 aa, .int .i64 bb, .int .u16 src, .int .u16 dst, .int .u8 proto, .int .u16 id, .int .u8 off, .bool more, .int .u16 sport, .int .u16 dport, .slice dso dsn dsc, .slice (some aa1) n cap]] w fun e w' => e = .returned (.bool true) ∧ Q4 w' := by
  have heq := fun wx => Lib.run_eql_slice_nil (P := Tryz.prog) wx 38 5 (some aa1) n cap 0 0 Tryz.underlying38
  go_enter Tryz.func20, Tryz.ntmps20
  go_wp2_with fail
  generalize ((w.alloc (.cells #[.pointer (some ⟨xb, 0, none⟩), .pointer (some ⟨yb, 0, none⟩)] 52)).alloc (.cells #[.int .i64 8, .int .i64 ee, .int .i64 aa, .int .i64 bb, .int .u16 src, .int .u16 dst, .int .u8 proto, .int .u16 id, .int .u8 off, .bool more, .int .u16 sport, .int .u16 dport, .slice dso dsn dsc, .slice (some aa1) n cap] 42)) = w2 at *
  obtain ⟨c1, h2, c2⟩ := HB0.out w2 H0.out
  have hh : w.heap.size < w2.heap.size := by omega
  go_wp2_with fail
  refine (HG.out w2 H0.out).mono ?_
  rintro e w3 ⟨rfl, q1⟩
  clear c1 c2 h2 hh
  obtain ⟨c1, h2, c2⟩ := HB1.out w3 q1
  go_wp2_with fail
  refine (HX.out w3 q1).mono ?_
  rintro e w4 ⟨rfl, q2⟩
  clear c1 c2 h2 q1
  obtain ⟨c1, h2, c2⟩ := HB2.out w4 q2
  go_wp2_with fail
  refine (HY.out w4 q2).mono ?_
  rintro e w5 ⟨rfl, q3⟩
  clear c1 c2 h2 q2
  obtain ⟨c1, h2, c2⟩ := HB3.out w5 q3
  go_wp2_with fail
  refine (HC.out w5 q3).mono ?_
  rintro e w6 ⟨rfl, q4⟩
  clear c1 c2 h2 q3
  go_wp2
  go_ret
  exact ⟨by simp, q4⟩
set_option maxRecDepth 100000 in
set_option maxHeartbeats 1600000 in
theorem brings_backends_nil (xb yb : Nat) (ee aa bb src dst proto id off : Int) (more : Bool) (sport dport : Int) (dso : Option Addr) (dsn dsc : Nat) (w : World) (ga : Nat) (rr er : Int) (Q0 Q1 Q2 Q3 Q4 : World → Prop)
    (HG : Hid (∀ wz, Q0 wz → Calls Tryz.prog 26 #[.slice none 0 0] wz fun e w' => e = .returned (.slice (some ⟨ga, 0, none⟩) (0 + 8) (0 + 8)) ∧ Q1 w'))
    (HX : Hid (∀ wz, Q1 wz → Calls Tryz.prog 38 #[.pointer (some ⟨xb, 0, none⟩), .slice none 0 0] wz fun e w' => e = .returned (.int .i64 er) ∧ Q2 w'))
    (HY : Hid (∀ wz, Q2 wz → Calls Tryz.prog 39 #[.pointer (some ⟨yb, 0, none⟩), .slice none 0 0] wz fun e w' => e = .returned (.int .i64 er) ∧ Q3 w'))
    (HC : Hid (∀ wz, Q3 wz → Calls Tryz.prog 29 #[.slice (some ⟨ga, 0, none⟩) (0 + 8) (0 + 8), .slice none 0 0] wz fun e w' => e = .returned (.bool true) ∧ Q4 w'))
    (HB0 : Hid (∀ wz, Q0 wz → Bx w #[.pointer (some ⟨xb, 0, none⟩), .pointer (some ⟨yb, 0, none⟩)] #[.int .i64 6, .int .i64 ee, .int .i64 aa, .int .i64 bb, .int .u16 src, .int .u16 dst, .int .u8 proto, .int .u16 id, .int .u8 off, .bool more, .int .u16 sport, .int .u16 dport, .slice dso dsn dsc, .slice none 0 0] wz)) (HB1 : Hid (∀ wz, Q1 wz → Bx w #[.pointer (some ⟨xb, 0, none⟩), .pointer (some ⟨yb, 0, none⟩)] #[.int .i64 6, .int .i64 ee, .int .i64 aa, .int .i64 bb, .int .u16 src, .int .u16 dst, .int .u8 proto, .int .u16 id, .int .u8 off, .bool more, .int .u16 sport, .int .u16 dport, .slice dso dsn dsc, .slice none 0 0] wz)) (HB2 : Hid (∀ wz, Q2 wz → Bx w #[.pointer (some ⟨xb, 0, none⟩), .pointer (some ⟨yb, 0, none⟩)] #[.int .i64 6, .int .i64 ee, .int .i64 aa, .int .i64 bb, .int .u16 src, .int .u16 dst, .int .u8 proto, .int .u16 id, .int .u8 off, .bool more, .int .u16 sport, .int .u16 dport, .slice dso dsn dsc, .slice none 0 0] wz)) (HB3 : Hid (∀ wz, Q3 wz → Bx w #[.pointer (some ⟨xb, 0, none⟩), .pointer (some ⟨yb, 0, none⟩)] #[.int .i64 6, .int .i64 ee, .int .i64 aa, .int .i64 bb, .int .u16 src, .int .u16 dst, .int .u8 proto, .int .u16 id, .int .u8 off, .bool more, .int .u16 sport, .int .u16 dport, .slice dso dsn dsc, .slice none 0 0] wz))
    (H0 : Hid (Q0 ((w.alloc (.cells #[.pointer (some ⟨xb, 0, none⟩), .pointer (some ⟨yb, 0, none⟩)] 52)).alloc (.cells #[.int .i64 6, .int .i64 ee, .int .i64 aa, .int .i64 bb, .int .u16 src, .int .u16 dst, .int .u8 proto, .int .u16 id, .int .u8 off, .bool more, .int .u16 sport, .int .u16 dport, .slice dso dsn dsc, .slice none 0 0] 42)))) (hn : 0 ≤ 140737488351232) :
    Calls Tryz.prog 20 #[.agg #[.pointer (some ⟨xb, 0, none⟩), .pointer (some ⟨yb, 0, none⟩)], .agg #[.int .i64 6, .int .i64 ee, .int .i64 aa, .int .i64 bb, .int .u16 src, .int .u16 dst, .int .u8 proto, .int .u16 id, .int .u8 off, .bool more, .int .u16 sport, .int .u16 dport, .slice dso dsn dsc, .slice none 0 0]] w fun e w' => e = .returned (.bool true) ∧ Q4 w' := by
  have heq := fun wx => Lib.run_eql_slice_nil (P := Tryz.prog) wx 38 5 none 0 0 0 0 Tryz.underlying38
  go_enter Tryz.func20, Tryz.ntmps20
  go_wp2_with fail
  generalize ((w.alloc (.cells #[.pointer (some ⟨xb, 0, none⟩), .pointer (some ⟨yb, 0, none⟩)] 52)).alloc (.cells #[.int .i64 6, .int .i64 ee, .int .i64 aa, .int .i64 bb, .int .u16 src, .int .u16 dst, .int .u8 proto, .int .u16 id, .int .u8 off, .bool more, .int .u16 sport, .int .u16 dport, .slice dso dsn dsc, .slice none 0 0] 42)) = w2 at *
  obtain ⟨c1, h2, c2⟩ := HB0.out w2 H0.out
  have hh : w.heap.size < w2.heap.size := by omega
  go_wp2_with fail
  refine (HG.out w2 H0.out).mono ?_
  rintro e w3 ⟨rfl, q1⟩
  clear c1 c2 h2 hh
  obtain ⟨c1, h2, c2⟩ := HB1.out w3 q1
  go_wp2_with fail
  refine (HX.out w3 q1).mono ?_
  rintro e w4 ⟨rfl, q2⟩
  clear c1 c2 h2 q1
  obtain ⟨c1, h2, c2⟩ := HB2.out w4 q2
  go_wp2_with fail
  refine (HY.out w4 q2).mono ?_
  rintro e w5 ⟨rfl, q3⟩
  clear c1 c2 h2 q2
  obtain ⟨c1, h2, c2⟩ := HB3.out w5 q3
  go_wp2_with fail
  refine (HC.out w5 q3).mono ?_
  rintro e w6 ⟨rfl, q4⟩
  clear c1 c2 h2 q3
  go_wp2
  go_ret
  exact ⟨by simp, q4⟩
set_option maxRecDepth 100000 in
set_option maxHeartbeats 1600000 in
theorem brings_arrive_nil (xb yb : Nat) (ee aa bb src dst proto id off : Int) (more : Bool) (sport dport : Int) (dso : Option Addr) (dsn dsc : Nat) (w : World) (ga : Nat) (rr er : Int) (Q0 Q1 Q2 Q3 Q4 : World → Prop)
    (HG : Hid (∀ wz, Q0 wz → Calls Tryz.prog 26 #[.slice none 0 0] wz fun e w' => e = .returned (.slice (some ⟨ga, 0, none⟩) (0 + 8) (0 + 8)) ∧ Q1 w'))
    (HX : Hid (∀ wz, Q1 wz → Calls Tryz.prog 40 #[.pointer (some ⟨xb, 0, none⟩), .int .i64 aa, .slice none 0 0] wz fun e w' => e = .returned (.tuple #[.int .i64 rr, .int .i64 er]) ∧ Q2 w'))
    (HY : Hid (∀ wz, Q2 wz → Calls Tryz.prog 41 #[.pointer (some ⟨yb, 0, none⟩), .int .i64 aa, .slice none 0 0] wz fun e w' => e = .returned (.tuple #[.int .i64 rr, .int .i64 er]) ∧ Q3 w'))
    (HC : Hid (∀ wz, Q3 wz → Calls Tryz.prog 29 #[.slice (some ⟨ga, 0, none⟩) (0 + 8) (0 + 8), .slice none 0 0] wz fun e w' => e = .returned (.bool true) ∧ Q4 w'))
    (HB0 : Hid (∀ wz, Q0 wz → Bx w #[.pointer (some ⟨xb, 0, none⟩), .pointer (some ⟨yb, 0, none⟩)] #[.int .i64 8, .int .i64 ee, .int .i64 aa, .int .i64 bb, .int .u16 src, .int .u16 dst, .int .u8 proto, .int .u16 id, .int .u8 off, .bool more, .int .u16 sport, .int .u16 dport, .slice dso dsn dsc, .slice none 0 0] wz)) (HB1 : Hid (∀ wz, Q1 wz → Bx w #[.pointer (some ⟨xb, 0, none⟩), .pointer (some ⟨yb, 0, none⟩)] #[.int .i64 8, .int .i64 ee, .int .i64 aa, .int .i64 bb, .int .u16 src, .int .u16 dst, .int .u8 proto, .int .u16 id, .int .u8 off, .bool more, .int .u16 sport, .int .u16 dport, .slice dso dsn dsc, .slice none 0 0] wz)) (HB2 : Hid (∀ wz, Q2 wz → Bx w #[.pointer (some ⟨xb, 0, none⟩), .pointer (some ⟨yb, 0, none⟩)] #[.int .i64 8, .int .i64 ee, .int .i64 aa, .int .i64 bb, .int .u16 src, .int .u16 dst, .int .u8 proto, .int .u16 id, .int .u8 off, .bool more, .int .u16 sport, .int .u16 dport, .slice dso dsn dsc, .slice none 0 0] wz)) (HB3 : Hid (∀ wz, Q3 wz → Bx w #[.pointer (some ⟨xb, 0, none⟩), .pointer (some ⟨yb, 0, none⟩)] #[.int .i64 8, .int .i64 ee, .int .i64 aa, .int .i64 bb, .int .u16 src, .int .u16 dst, .int .u8 proto, .int .u16 id, .int .u8 off, .bool more, .int .u16 sport, .int .u16 dport, .slice dso dsn dsc, .slice none 0 0] wz))
    (H0 : Hid (Q0 ((w.alloc (.cells #[.pointer (some ⟨xb, 0, none⟩), .pointer (some ⟨yb, 0, none⟩)] 52)).alloc (.cells #[.int .i64 8, .int .i64 ee, .int .i64 aa, .int .i64 bb, .int .u16 src, .int .u16 dst, .int .u8 proto, .int .u16 id, .int .u8 off, .bool more, .int .u16 sport, .int .u16 dport, .slice dso dsn dsc, .slice none 0 0] 42)))) (hn : 0 ≤ 140737488351232) :
    Calls Tryz.prog 20 #[.agg #[.pointer (some ⟨xb, 0, none⟩), .pointer (some ⟨yb, 0, none⟩)], .agg #[.int .i64 8, .int .i64 ee, .int .i64 aa, .int .i64 bb, .int .u16 src, .int .u16 dst, .int .u8 proto, .int .u16 id, .int .u8 off, .bool more, .int .u16 sport, .int .u16 dport, .slice dso dsn dsc, .slice none 0 0]] w fun e w' => e = .returned (.bool true) ∧ Q4 w' := by
  have heq := fun wx => Lib.run_eql_slice_nil (P := Tryz.prog) wx 38 5 none 0 0 0 0 Tryz.underlying38
  go_enter Tryz.func20, Tryz.ntmps20
  go_wp2_with fail
  generalize ((w.alloc (.cells #[.pointer (some ⟨xb, 0, none⟩), .pointer (some ⟨yb, 0, none⟩)] 52)).alloc (.cells #[.int .i64 8, .int .i64 ee, .int .i64 aa, .int .i64 bb, .int .u16 src, .int .u16 dst, .int .u8 proto, .int .u16 id, .int .u8 off, .bool more, .int .u16 sport, .int .u16 dport, .slice dso dsn dsc, .slice none 0 0] 42)) = w2 at *
  obtain ⟨c1, h2, c2⟩ := HB0.out w2 H0.out
  have hh : w.heap.size < w2.heap.size := by omega
  go_wp2_with fail
  refine (HG.out w2 H0.out).mono ?_
  rintro e w3 ⟨rfl, q1⟩
  clear c1 c2 h2 hh
  obtain ⟨c1, h2, c2⟩ := HB1.out w3 q1
  go_wp2_with fail
  refine (HX.out w3 q1).mono ?_
  rintro e w4 ⟨rfl, q2⟩
  clear c1 c2 h2 q1
  obtain ⟨c1, h2, c2⟩ := HB2.out w4 q2
  go_wp2_with fail
  refine (HY.out w4 q2).mono ?_
  rintro e w5 ⟨rfl, q3⟩
  clear c1 c2 h2 q2
  obtain ⟨c1, h2, c2⟩ := HB3.out w5 q3
  go_wp2_with fail
  refine (HC.out w5 q3).mono ?_
  rintro e w6 ⟨rfl, q4⟩
  clear c1 c2 h2 q3
  go_wp2
  go_ret
  exact ⟨by simp, q4⟩

end Go.Proofs.YtajphdppmdoalaaGreat
