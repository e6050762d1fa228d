import Derived.Test.YtajphdppmdoalaaGreatZMItoMI
import Derived.Test.YtajphdppmdoalaaGreatZU2toLA
import Derived.Test.YtajphdppmdoalaaGreatZHtoLB
import Derived.Deep.RegionHeld3
import Derived.Deep.DeepCutAuto
namespace Go.Proofs.YtajphdppmdoalaaGreat
open Go.RowKit
set_option linter.unusedVariables false

/-- Values laid one behind the other. -/
def setL (xs : List Value) : Nat → List Value → List Value
  | _, [] => xs
  | a, v :: vs => setL (xs.set a v) (a + 1) vs
def stL (w : World) (g : Nat) : Nat → List Value → World
  | _, [] => w
  | a, v :: vs => stL (w.setCell ⟨g, a, none⟩ v) g (a + 1) vs
theorem setL_eq (xs : List Value) (a : Nat) (vs : List Value) (h : a + vs.length ≤ xs.length) : setL xs a vs = xs.take a ++ vs ++ xs.drop (a + vs.length) := by
  induction vs generalizing xs a with
  | nil => simp [setL]
  | cons v vs ih =>
    rw [List.length_cons] at h
    rw [setL, ih (xs.set a v) (a + 1) (by rw [List.length_set]; omega)]
    have h1 : (xs.set a v).take (a + 1) = xs.take a ++ [v] := by
      rw [List.take_add_one, List.take_set_of_le (Nat.le_refl _), List.getElem?_set_self (by omega)]
      rfl
    have h2 : (xs.set a v).drop (a + 1 + vs.length) = xs.drop (a + (v :: vs).length) := by
      rw [List.drop_set_of_lt (by omega), List.length_cons, show a + 1 + vs.length = a + (vs.length + 1) from by omega]
    rw [h1, h2]
    simp
theorem stL_own {w : World} {base g n cap s : Nat} {e : TypeId} {xs : List Value} (h : w.ownsRow base e s (.slice (some ⟨g, 0, none⟩) n cap) n xs) (a : Nat) (vs : List Value) : (stL w g a vs).ownsRow base e s (.slice (some ⟨g, 0, none⟩) n cap) n (setL xs a vs) := by
  induction vs generalizing w a xs with
  | nil => exact h
  | cons v vs ih => exact ih (h.stored a v).1 (a + 1)
theorem stL_only (w : World) (g a : Nat) (vs : List Value) : Only (fun q => q = g) w (stL w g a vs) := by
  induction vs generalizing w a with
  | nil => exact Only.refl _ _
  | cons v vs ih => exact ((Only.refl _ _).setB v).trans (ih (w.setCell ⟨g, a, none⟩ v) (a + 1)) (fun _ _ h => h)
theorem gone_set (l : List Ent) (k : Nat) (e : Ent) : goneM (l.set k e) k = goneM l k := by
  unfold goneM
  rw [List.take_set_of_le (Nat.le_refl _), List.drop_set_of_lt (by omega)]

/-- An entry is put in its place. -/
theorem ref_put {w : World} {yb : Nat} {S : Cl} {F : Nat → Prop} {vS vN vV : Value} {g c : Nat} {ES : List RE} {NS : List RN} (h : RefIs w yb S F vS (.slice (some ⟨g, 0, none⟩) ES.length c) vN vV ES NS) (K : Nat) (r r2 : RE) (hK : ES[K]? = some r) (hrow : w.ownsRow 0 130 5 r2.pv r2.e.pcs.length (r2.e.pcs.flatMap Pc.cells)) (hdv : ∃ ao n cap, r2.dv = .slice ao n cap) :
    RefIs (stL w g (K * 14) r2.cells) yb { S with ents := S.ents.set K r2.e } (fun k => F k ∨ r2.pv.ownBlock = some k) vS (.slice (some ⟨g, 0, none⟩) (ES.set K r2).length c) vN vV (ES.set K r2) NS ∧ Only (fun q => q = g) w (stL w g (K * 14) r2.cells) := by
  have hl : K < ES.length := (List.getElem?_eq_some_iff.1 hK).1
  have ho := stL_only w g (K * 14) r2.cells
  have hE := stL_own h.rE (K * 14) r2.cells
  have hcells : setL (ES.flatMap RE.cells) (K * 14) r2.cells = (ES.set K r2).flatMap RE.cells := by
    rw [setL_eq _ _ _ (by rw [flat_length RE.cells 14 RE.len, RE.len]; omega), flat_set_cells RE.cells 14 RE.len ES K r r2 hK, RE.len]
  rw [hcells] at hE
  have hn : ∀ {u : Value} {e : TypeId} {s k : Nat} {ys : List Value}, w.ownsRow 0 e s u k ys → e ≠ 128 → ∀ q, u.ownBlock = some q → ¬ q = g := by
    intro u e s k ys hu hne q hq hqg
    subst hqg
    exact own_apart' hu h.rE hne hq rfl
  have hyg : ¬ yb = g := fun hh => own_apart_blk h.rE h.blk (by decide) (by rw [hh]; rfl)
  have mem : ∀ r' ∈ ES.set K r2, r' ∈ ES ∨ r' = r2 := fun r' hr => List.mem_or_eq_of_mem_set hr
  refine ⟨⟨by rw [List.length_set]; exact (ho.block yb h.lt hyg).trans h.blk, ?_, h.hns, own_only h.rS ho (hn h.rS (by decide)), ?_, own_only h.rN ho (hn h.rN (by decide)), own_only h.rV ho (hn h.rV (by decide)), ?_, .inl h.fy, fun q hq => .inl (h.fS q hq), fun q hq => .inl (h.fE q (by simpa [Value.ownBlock] using hq)), fun q hq => .inl (h.fN q hq), fun q hq => .inl (h.fV q hq), ?_, ?_, ?_, h.rawN⟩, ho⟩
  · rw [List.map_set, h.hes]
  · rw [List.length_set]; exact hE
  · intro r' hr
    rcases mem r' hr with h1 | rfl
    · exact own_only (h.rP r' h1) ho (hn (h.rP r' h1) (by decide))
    · exact own_only hrow ho (hn hrow (by decide))
  · intro r' hr q hq
    rcases mem r' hr with h1 | rfl
    · exact .inl (h.fP r' h1 q hq)
    · exact .inr hq
  · intro k hk
    rcases hk with hk | hk
    · exact Nat.lt_of_lt_of_le (h.flt k hk) ho.size
    · exact Nat.lt_of_lt_of_le (hrow.lt k hk).2 ho.size
  · intro r' hr
    rcases mem r' hr with h1 | rfl
    · exact h.raw r' h1
    · exact hdv

theorem cells_at {w : World} {b : Nat} {xs : List Value} {t : TypeId} (h : w.heap[b]? = some (.cells xs.toArray t (0, 0))) : ∀ j u, xs[j]? = some u → w.cell? ((⟨b, 0, none⟩ : Addr).add j) = some u := by
  intro j u hu
  rw [show (⟨b, 0, none⟩ : Addr).add j = ⟨b, j, none⟩ from by cases j <;> simp [Addr.add]]
  rw [arr_cell h]
  simpa using hu
theorem cells_new2 (w : World) (a : Obj) (xs : List Value) (t : TypeId) : ∀ j u, xs[j]? = some u → ((w.alloc a).alloc (.cells xs.toArray t)).cell? ((⟨w.heap.size + 1, 0, none⟩ : Addr).add j) = some u := cells_at (heap_new2 _ _ _)
theorem cells_newS (w : World) (a : Addr) (v : Value) (xs : List Value) (t : TypeId) : ∀ j u, xs[j]? = some u → ((w.setCell a v).alloc (.cells xs.toArray t)).cell? ((⟨w.heap.size, 0, none⟩ : Addr).add j) = some u := by
  refine cells_at (t := t) ?_
  have := heap_alloc_new (w.setCell a v) (.cells xs.toArray t)
  rwa [show (w.setCell a v).heap.size = w.heap.size from by simp] at this
theorem own_cells31 {w : World} {v : Value} {T : List Int} (h : w.ownsRow 0 5 1 v T.length (T.map (Value.int .u8))) (hT : T.length = 31) : ∃ gs cs, v = .slice (some ⟨gs, 0, none⟩) 31 cs ∧ gs < w.heap.size ∧ ∀ j, j < 31 → w.cell? ⟨gs, j, none⟩ = some (.int .u8 (T.getD j 0)) := by
  obtain ⟨gs, cs, hv⟩ := own_some h (by omega)
  rw [hT] at hv
  subst hv
  refine ⟨gs, cs, rfl, (h.lt gs rfl).2, fun j hj => ?_⟩
  rw [hT] at h
  rw [h.cellAt j (by omega), List.getElem?_map, List.getElem?_eq_getElem (by omega), List.getD_eq_getElem?_getD, List.getElem?_eq_getElem (by omega)]
  rfl
theorem pcs_map (l : List Pc) (f : Pc → Pc) (hf : ∀ q, (f q).a = q.a ∧ (f q).b = q.b) (h : ∀ q ∈ l, 0 ≤ q.a ∧ q.a ≤ q.b ∧ q.b ≤ 92) : ∀ q ∈ l.map f, 0 ≤ q.a ∧ q.a ≤ q.b ∧ q.b ≤ 92 := by
  intro q hq
  obtain ⟨x, hx, rfl⟩ := List.mem_map.1 hq
  rw [(hf x).1, (hf x).2]
  exact h x hx

end Go.Proofs.YtajphdppmdoalaaGreat

namespace Go.Proofs.YtajphdppmdoalaaGreat
open Go.RowKit
set_option linter.unusedVariables false

set_option maxRecDepth 100000 in
set_option maxHeartbeats 1600000 in
theorem rchoose_no (yb : Nat) (S : Cl) (F : Nat → Prop) (vS vE vN vV : Value) (ES : List RE) (NS : List RN) (src dst proto id off : Int) (more : Bool) (sport dport : Int) (ao : Option Addr) (n cap : Nat) (w : World) (h : RefIs w yb S F vS vE vN vV ES NS) (hs : S.slots = []) :
    Calls Tryz.prog 49 #[.pointer (some ⟨yb, 0, none⟩), .agg #[.int .u16 src, .int .u16 dst, .int .u8 proto, .int .u16 id, .int .u8 off, .bool more, .int .u16 sport, .int .u16 dport, .slice ao n cap]] w fun e w' => e = .returned (.tuple #[.int .u8 0, .int .i64 7]) ∧ Below w.heap.size w w' := by
  have hyb := h.lt
  obtain ⟨sa, sc, hvS⟩ := own_slice h.rS
  subst hvS
  have dY := arr_cell h.blk
  rw [hs] at dY
  have HB0 : Hid (∀ O, Below w.heap.size w (w.alloc O)) := fun O => (Below.refl _ _).alloc (Nat.le_refl _) _
  clear h hs
  go_enter Tryz.func49, Tryz.ntmps49
  go_wp2
  go_ret2
  exact ⟨rfl, HB0.out _⟩

set_option maxRecDepth 100000 in
set_option maxHeartbeats 1600000 in
theorem rchoose_yes (yb : Nat) (S : Cl) (F : Nat → Prop) (vS vE vN vV : Value) (ES : List RE) (NS : List RN) (src dst proto id off : Int) (more : Bool) (sport dport : Int) (ao : Option Addr) (n cap : Nat) (w : World) (h : RefIs w yb S F vS vE vN vV ES NS) (hs : S.slots.length = 31) (hsrc : 0 ≤ src ∧ src ≤ 65535) (hdst : 0 ≤ dst ∧ dst ≤ 65535) (hproto : 0 ≤ proto ∧ proto ≤ 255) (hid : 0 ≤ id ∧ id ≤ 65535) (hsport : 0 ≤ sport ∧ sport ≤ 65535) (hdport : 0 ≤ dport ∧ dport ≤ 65535) :
    Calls Tryz.prog 49 #[.pointer (some ⟨yb, 0, none⟩), .agg #[.int .u16 src, .int .u16 dst, .int .u8 proto, .int .u16 id, .int .u8 off, .bool more, .int .u16 sport, .int .u16 dport, .slice ao n cap]] w fun e w' => e = .returned (.tuple #[.int .u8 (S.slots.getD ((flH src dst proto sport dport).toNat % 31) 0), .int .i64 0]) ∧ Below w.heap.size w w' := by
  have hyb := h.lt
  have HB0 : Hid (∀ O, Below w.heap.size w (w.alloc O)) := fun O => (Below.refl _ _).alloc (Nat.le_refl _) _
  obtain ⟨gs, cs, hvS, hgs, hT⟩ := own_cells31 h.rS hs
  subst hvS
  have dY := arr_cell h.blk
  have HC : Hid (∀ O, Calls Tryz.prog 76 #[.pointer (some ⟨yb, 0, none⟩), .agg #[.int .u16 src, .int .u16 dst, .int .u8 proto, .int .u16 id, .int .u8 off, .bool more, .int .u16 sport, .int .u16 dport, .slice ao n cap]] (w.alloc O) fun e w' => e = .returned (.int .u8 (S.slots.getD ((flH src dst proto sport dport).toNat % 31) 0)) ∧ Below (w.alloc O).heap.size (w.alloc O) w') := by
    intro O
    refine rchosen_any yb gs cs S.slots src dst proto id off more sport dport ao n cap (w.alloc O) hsrc hdst hproto hid hsport hdport ?_ ?_ ?_ ?_
    · rw [World.cell?_alloc_past O _ _ hyb]; exact dY 4
    · simp; omega
    · intro j hj; rw [World.cell?_alloc_past O _ _ hgs]; exact hT j hj
    · simp; omega
  generalize S.slots.getD ((flH src dst proto sport dport).toNat % 31) 0 = R at *
  clear h hs hT
  go_enter Tryz.func49, Tryz.ntmps49
  go_wp2_with fail
  refine (HC.out _).mono ?_
  rintro e w2 ⟨rfl, hb2⟩
  have HB2 : Hid (Below w.heap.size w w2) := (HB0.out _).trans (hb2.mono (by simp))
  clear hb2 HC dY
  go_wp2
  go_ret2
  exact ⟨rfl, HB2.out⟩

set_option maxRecDepth 100000 in
set_option maxHeartbeats 1600000 in
theorem rnew_no (a b : Int) (w : World) (h : ¬ ((1 ≤ a ∧ a ≤ 5) ∧ (1 ≤ b ∧ b ≤ 20))) :
    Calls Tryz.prog 15 #[.int .i64 a, .int .i64 b] w fun e w' => e = .returned (.tuple #[.pointer none, .int .i64 1]) ∧ w' = w := by
  by_cases h1 : a ≥ 1
  · by_cases h2 : a ≤ 5
    · by_cases h3 : b ≥ 1
      · have h4 : ¬ b ≤ 20 := fun h4 => h ⟨⟨h1, h2⟩, h3, h4⟩
        clear h
        go_enter Tryz.func15, Tryz.ntmps15
        go_wp2
        all_goals (go_ret2; exact ⟨rfl, rfl⟩)
      · clear h
        go_enter Tryz.func15, Tryz.ntmps15
        go_wp2
        all_goals (go_ret2; exact ⟨rfl, rfl⟩)
    · clear h
      go_enter Tryz.func15, Tryz.ntmps15
      go_wp2
      all_goals (go_ret2; exact ⟨rfl, rfl⟩)
  · clear h
    go_enter Tryz.func15, Tryz.ntmps15
    go_wp2
    all_goals (go_ret2; exact ⟨rfl, rfl⟩)
theorem ref_new (w : World) (a b : Int) : RefIs (w.alloc (.cells #[.int .i64 a, .int .i64 b, .int .i64 0, .int .i64 0, .slice none 0 0, .slice none 0 0, .slice none 0 0, .slice none 0 0] 73)) w.heap.size (Cl.new a b) (fun k => k = w.heap.size) (.slice none 0 0) (.slice none 0 0) (.slice none 0 0) (.slice none 0 0) [] [] :=
  ⟨heap_alloc_new _ _, rfl, rfl, World.ownsRow_nil _ _ _ _, World.ownsRow_nil _ _ _ _, World.ownsRow_nil _ _ _ _, World.ownsRow_nil _ _ _ _, by simp, rfl, by simp [Value.ownBlock], by simp [Value.ownBlock], by simp [Value.ownBlock], by simp [Value.ownBlock], by simp, fun k hk => by rw [hk]; simp, by simp, by simp⟩
set_option maxRecDepth 100000 in
set_option maxHeartbeats 1600000 in
theorem rnew_yes (a b : Int) (w : World) (ha : 1 ≤ a ∧ a ≤ 5) (hb : 1 ≤ b ∧ b ≤ 20) :
    Calls Tryz.prog 15 #[.int .i64 a, .int .i64 b] w fun e w' => e = .returned (.tuple #[.pointer (some ⟨w.heap.size, 0, none⟩), .int .i64 0]) ∧ RefIs w' w.heap.size (Cl.new a b) (fun k => k = w.heap.size) (.slice none 0 0) (.slice none 0 0) (.slice none 0 0) (.slice none 0 0) [] [] ∧ Below w.heap.size w w' := by
  have h1 : a ≥ 1 := ha.1
  have h2 : a ≤ 5 := ha.2
  have h3 : b ≥ 1 := hb.1
  have h4 : b ≤ 20 := hb.2
  have HR := hide (ref_new w a b)
  clear ha hb
  go_enter Tryz.func15, Tryz.ntmps15
  go_wp2
  go_ret2
  exact ⟨rfl, HR.out, (Below.refl _ _).alloc (Nat.le_refl _) _⟩

end Go.Proofs.YtajphdppmdoalaaGreat

namespace Go.Proofs.YtajphdppmdoalaaGreat
open Go.RowKit
set_option linter.unusedVariables false

end Go.Proofs.YtajphdppmdoalaaGreat

namespace Go.Proofs.YtajphdppmdoalaaGreat
open Go.RowKit
set_option linter.unusedVariables false

end Go.Proofs.YtajphdppmdoalaaGreat

namespace Go.Proofs.YtajphdppmdoalaaGreat
open Go.RowKit
set_option linter.unusedVariables false

end Go.Proofs.YtajphdppmdoalaaGreat

namespace Go.Proofs.YtajphdppmdoalaaGreat
open Go.RowKit

end Go.Proofs.YtajphdppmdoalaaGreat

namespace Go.Proofs.YtajphdppmdoalaaGreat
open Go.RowKit
set_option linter.unusedVariables false

theorem has_of_row {w : World} {g : Nat} {cur : Array Value} {t : TypeId} {zs : List Int} (h : w.heap[g]? = some (.cells cur t (0, 0))) (hc : ∀ j, j < zs.length → cur[j]? = some (.int .u8 (zs.getD j 0))) : Has w (some ⟨g, 0, none⟩) zs :=
  ⟨by simp, fun _ => ⟨g, 0, rfl, lt_of_block h, fun j hj => by rw [arr_cell h, Nat.zero_add]; exact hc j hj⟩⟩
end Go.Proofs.YtajphdppmdoalaaGreat

namespace Go.Proofs.YtajphdppmdoalaaGreat
open Go.RowKit
set_option linter.unusedVariables false

set_option maxRecDepth 100000 in
set_option maxHeartbeats 400000 in
theorem runpack_short (ao : Option Addr) (n cap : Nat) (w : World) (hn : n < 12) :
    Calls Tryz.prog 32 #[.slice ao n cap] w fun e w' => e = .returned (.tuple #[.agg #[.int .u16 0, .int .u16 0, .int .u8 0, .int .u16 0, .int .u8 0, .bool false, .int .u16 0, .int .u16 0, .slice none 0 0], .int .i64 2]) ∧ Below w.heap.size w w' := by
  go_enter Tryz.func32, Tryz.ntmps32
  go_wp2
  refine bodyPost_ret (v := .tuple #[.agg #[.int .u16 0, .int .u16 0, .int .u8 0, .int .u16 0, .int .u8 0, .bool false, .int .u16 0, .int .u16 0, .slice none 0 0], .int .i64 2]) ?_ rfl ⟨rfl, ?_⟩
  all_goals go_light
  · simp [results, Tryz.results32, go_sem]
  · repeat' first | with_reducible exact Below.refl _ _ | with_reducible refine Below.setCell ?_ ?_ _ | with_reducible refine below_drewN ?_ _ | with_reducible refine Below.drew ?_ | with_reducible refine Below.alloc ?_ ?_ _
    all_goals (simp; try omega)

set_option maxRecDepth 100000 in
set_option maxHeartbeats 800000 in
theorem runpack_mark (b o n cap : Nat) (h0 h1 h2 h3 h4 h5 h6 h7 h8 h9 h10 h11 : Int) (r : List Int) (w : World) (hn : 12 + r.length = n) (hnm : n ≤ 9223372036854775807) (hd : Has w (some ⟨b, o, none⟩) ([h0, h1, h2, h3, h4, h5, h6, h7, h8, h9, h10, h11] ++ r)) (b0 : 0 ≤ h0 ∧ h0 ≤ 255) (b1 : 0 ≤ h1 ∧ h1 ≤ 255) (b2 : 0 ≤ h2 ∧ h2 ≤ 255) (b3 : 0 ≤ h3 ∧ h3 ≤ 255) (b4 : 0 ≤ h4 ∧ h4 ≤ 255) (b5 : 0 ≤ h5 ∧ h5 ≤ 255) (b6 : 0 ≤ h6 ∧ h6 ≤ 255) (b7 : 0 ≤ h7 ∧ h7 ≤ 255) (b8 : 0 ≤ h8 ∧ h8 ≤ 255) (b9 : 0 ≤ h9 ∧ h9 ≤ 255) (b10 : 0 ≤ h10 ∧ h10 ≤ 255) (b11 : 0 ≤ h11 ∧ h11 ≤ 255) (q0 : (h0 / 2 != 8) = true) :
    Calls Tryz.prog 32 #[.slice (some ⟨b, o, none⟩) n cap] w fun e w' => e = .returned (.tuple #[.agg #[.int .u16 0, .int .u16 0, .int .u8 0, .int .u16 0, .int .u8 0, .bool false, .int .u16 0, .int .u16 0, .slice none 0 0], .int .i64 3]) ∧ Below w.heap.size w w' := by
  have i0 : 12 ≤ n := by omega
  have j0 : (0 : Int) < (n : Int) := by omega
  have j8 : (8 : Int) < (n : Int) := by omega
  have j9 : (9 : Int) < (n : Int) := by omega
  have HD := hide hd
  obtain ⟨b', o', he, hlt, hc⟩ := hd.2 (by simp)
  simp only [Option.some.injEq, Addr.mk.injEq] at he
  obtain ⟨rfl, rfl, _⟩ := he
  have e0 : ∀ O, (w.alloc O).cell? ⟨b, o, none⟩ = some (.int .u8 h0) := fun O => (World.cell?_alloc_past O _ _ hlt).trans (by simpa using hc 0 (by simp))
  have e8 : ∀ O, (w.alloc O).cell? ⟨b, o + 8, none⟩ = some (.int .u8 h8) := fun O => (World.cell?_alloc_past O _ _ hlt).trans (by simpa using hc 8 (by simp))
  have e9 : ∀ O, (w.alloc O).cell? ⟨b, o + 9, none⟩ = some (.int .u8 h9) := fun O => (World.cell?_alloc_past O _ _ hlt).trans (by simpa using hc 9 (by simp))
  have HC := hide hc
  clear hc hd
  go_enter Tryz.func32, Tryz.ntmps32
  go_wp2
  refine bodyPost_ret (v := .tuple #[.agg #[.int .u16 0, .int .u16 0, .int .u8 0, .int .u16 0, .int .u8 0, .bool false, .int .u16 0, .int .u16 0, .slice none 0 0], .int .i64 3]) ?_ rfl ⟨rfl, ?_⟩
  all_goals go_light
  · simp [results, Tryz.results32, go_sem]
  · repeat' first | with_reducible exact Below.refl _ _ | with_reducible refine Below.setCell ?_ ?_ _ | with_reducible refine below_drewN ?_ _ | with_reducible refine Below.drew ?_ | with_reducible refine Below.alloc ?_ ?_ _
    all_goals (simp; try omega)

set_option maxRecDepth 100000 in
set_option maxHeartbeats 800000 in
theorem runpack_lenA (b o n cap : Nat) (h0 h1 h2 h3 h4 h5 h6 h7 h8 h9 h10 h11 : Int) (r : List Int) (w : World) (hn : 12 + r.length = n) (hnm : n ≤ 9223372036854775807) (hd : Has w (some ⟨b, o, none⟩) ([h0, h1, h2, h3, h4, h5, h6, h7, h8, h9, h10, h11] ++ r)) (b0 : 0 ≤ h0 ∧ h0 ≤ 255) (b1 : 0 ≤ h1 ∧ h1 ≤ 255) (b2 : 0 ≤ h2 ∧ h2 ≤ 255) (b3 : 0 ≤ h3 ∧ h3 ≤ 255) (b4 : 0 ≤ h4 ∧ h4 ≤ 255) (b5 : 0 ≤ h5 ∧ h5 ≤ 255) (b6 : 0 ≤ h6 ∧ h6 ≤ 255) (b7 : 0 ≤ h7 ∧ h7 ≤ 255) (b8 : 0 ≤ h8 ∧ h8 ≤ 255) (b9 : 0 ≤ h9 ∧ h9 ≤ 255) (b10 : 0 ≤ h10 ∧ h10 ≤ 255) (b11 : 0 ≤ h11 ∧ h11 ≤ 255) (q0 : (h0 / 2 != 8) = false) (q9 : (h9 + 12 != (n : Int)) = true) :
    Calls Tryz.prog 32 #[.slice (some ⟨b, o, none⟩) n cap] w fun e w' => e = .returned (.tuple #[.agg #[.int .u16 0, .int .u16 0, .int .u8 0, .int .u16 0, .int .u8 0, .bool false, .int .u16 0, .int .u16 0, .slice none 0 0], .int .i64 4]) ∧ Below w.heap.size w w' := by
  have i0 : 12 ≤ n := by omega
  have j0 : (0 : Int) < (n : Int) := by omega
  have j8 : (8 : Int) < (n : Int) := by omega
  have j9 : (9 : Int) < (n : Int) := by omega
  have HD := hide hd
  obtain ⟨b', o', he, hlt, hc⟩ := hd.2 (by simp)
  simp only [Option.some.injEq, Addr.mk.injEq] at he
  obtain ⟨rfl, rfl, _⟩ := he
  have e0 : ∀ O, (w.alloc O).cell? ⟨b, o, none⟩ = some (.int .u8 h0) := fun O => (World.cell?_alloc_past O _ _ hlt).trans (by simpa using hc 0 (by simp))
  have e8 : ∀ O, (w.alloc O).cell? ⟨b, o + 8, none⟩ = some (.int .u8 h8) := fun O => (World.cell?_alloc_past O _ _ hlt).trans (by simpa using hc 8 (by simp))
  have e9 : ∀ O, (w.alloc O).cell? ⟨b, o + 9, none⟩ = some (.int .u8 h9) := fun O => (World.cell?_alloc_past O _ _ hlt).trans (by simpa using hc 9 (by simp))
  have HC := hide hc
  clear hc hd
  go_enter Tryz.func32, Tryz.ntmps32
  go_wp2
  refine bodyPost_ret (v := .tuple #[.agg #[.int .u16 0, .int .u16 0, .int .u8 0, .int .u16 0, .int .u8 0, .bool false, .int .u16 0, .int .u16 0, .slice none 0 0], .int .i64 4]) ?_ rfl ⟨rfl, ?_⟩
  all_goals go_light
  · simp [results, Tryz.results32, go_sem]
  · repeat' first | with_reducible exact Below.refl _ _ | with_reducible refine Below.setCell ?_ ?_ _ | with_reducible refine below_drewN ?_ _ | with_reducible refine Below.drew ?_ | with_reducible refine Below.alloc ?_ ?_ _
    all_goals (simp; try omega)

set_option maxRecDepth 100000 in
set_option maxHeartbeats 800000 in
theorem runpack_lenB (b o n cap : Nat) (h0 h1 h2 h3 h4 h5 h6 h7 h9 h10 h11 : Int) (r : List Int) (w : World) (hn : 12 + r.length = n) (hnm : n ≤ 9223372036854775807) (hd : Has w (some ⟨b, o, none⟩) ([h0, h1, h2, h3, h4, h5, h6, h7, 0, h9, h10, h11] ++ r)) (b0 : 0 ≤ h0 ∧ h0 ≤ 255) (b1 : 0 ≤ h1 ∧ h1 ≤ 255) (b2 : 0 ≤ h2 ∧ h2 ≤ 255) (b3 : 0 ≤ h3 ∧ h3 ≤ 255) (b4 : 0 ≤ h4 ∧ h4 ≤ 255) (b5 : 0 ≤ h5 ∧ h5 ≤ 255) (b6 : 0 ≤ h6 ∧ h6 ≤ 255) (b7 : 0 ≤ h7 ∧ h7 ≤ 255) (b9 : 0 ≤ h9 ∧ h9 ≤ 255) (b10 : 0 ≤ h10 ∧ h10 ≤ 255) (b11 : 0 ≤ h11 ∧ h11 ≤ 255) (q0 : (h0 / 2 != 8) = false) (q9 : (h9 + 12 != (n : Int)) = false) (q4 : h9 < 4) :
    Calls Tryz.prog 32 #[.slice (some ⟨b, o, none⟩) n cap] w fun e w' => e = .returned (.tuple #[.agg #[.int .u16 0, .int .u16 0, .int .u8 0, .int .u16 0, .int .u8 0, .bool false, .int .u16 0, .int .u16 0, .slice none 0 0], .int .i64 4]) ∧ Below w.heap.size w w' := by
  have i0 : 12 ≤ n := by omega
  have j0 : (0 : Int) < (n : Int) := by omega
  have j8 : (8 : Int) < (n : Int) := by omega
  have j9 : (9 : Int) < (n : Int) := by omega
  have HD := hide hd
  obtain ⟨b', o', he, hlt, hc⟩ := hd.2 (by simp)
  simp only [Option.some.injEq, Addr.mk.injEq] at he
  obtain ⟨rfl, rfl, _⟩ := he
  have e0 : ∀ O, (w.alloc O).cell? ⟨b, o, none⟩ = some (.int .u8 h0) := fun O => (World.cell?_alloc_past O _ _ hlt).trans (by simpa using hc 0 (by simp))
  have e8 : ∀ O, (w.alloc O).cell? ⟨b, o + 8, none⟩ = some (.int .u8 0) := fun O => (World.cell?_alloc_past O _ _ hlt).trans (by simpa using hc 8 (by simp))
  have e9 : ∀ O, (w.alloc O).cell? ⟨b, o + 9, none⟩ = some (.int .u8 h9) := fun O => (World.cell?_alloc_past O _ _ hlt).trans (by simpa using hc 9 (by simp))
  have HC := hide hc
  clear hc hd
  go_enter Tryz.func32, Tryz.ntmps32
  go_wp2
  refine bodyPost_ret (v := .tuple #[.agg #[.int .u16 0, .int .u16 0, .int .u8 0, .int .u16 0, .int .u8 0, .bool false, .int .u16 0, .int .u16 0, .slice none 0 0], .int .i64 4]) ?_ rfl ⟨rfl, ?_⟩
  all_goals go_light
  · simp [results, Tryz.results32, go_sem]
  · repeat' first | with_reducible exact Below.refl _ _ | with_reducible refine Below.setCell ?_ ?_ _ | with_reducible refine below_drewN ?_ _ | with_reducible refine Below.drew ?_ | with_reducible refine Below.alloc ?_ ?_ _
    all_goals (simp; try omega)

set_option maxRecDepth 100000 in
set_option maxHeartbeats 800000 in
theorem runpack_sumP (b o n cap : Nat) (h0 h1 h2 h3 h4 h5 h6 h7 h9 h10 h11 : Int) (r : List Int) (w : World) (hn : 12 + r.length = n) (hnm : n ≤ 9223372036854775807) (hd : Has w (some ⟨b, o, none⟩) ([h0, h1, h2, h3, h4, h5, h6, h7, 0, h9, h10, h11] ++ r)) (b0 : 0 ≤ h0 ∧ h0 ≤ 255) (b1 : 0 ≤ h1 ∧ h1 ≤ 255) (b2 : 0 ≤ h2 ∧ h2 ≤ 255) (b3 : 0 ≤ h3 ∧ h3 ≤ 255) (b4 : 0 ≤ h4 ∧ h4 ≤ 255) (b5 : 0 ≤ h5 ∧ h5 ≤ 255) (b6 : 0 ≤ h6 ∧ h6 ≤ 255) (b7 : 0 ≤ h7 ∧ h7 ≤ 255) (b9 : 0 ≤ h9 ∧ h9 ≤ 255) (b10 : 0 ≤ h10 ∧ h10 ≤ 255) (b11 : 0 ≤ h11 ∧ h11 ≤ 255) (q0 : (h0 / 2 != 8) = false) (q9 : (h9 + 12 != (n : Int)) = false) (q4 : 4 ≤ h9) (qs : (csum h0 h1 h2 h3 h4 h5 h6 h7 0 h9 != h10 * 256 + h11) = true) :
    Calls Tryz.prog 32 #[.slice (some ⟨b, o, none⟩) n cap] w fun e w' => e = .returned (.tuple #[.agg #[.int .u16 0, .int .u16 0, .int .u8 0, .int .u16 0, .int .u8 0, .bool false, .int .u16 0, .int .u16 0, .slice none 0 0], .int .i64 5]) ∧ Below w.heap.size w w' := by
  have i0 : 12 ≤ n := by omega
  have j0 : (0 : Int) < (n : Int) := by omega
  have j8 : (8 : Int) < (n : Int) := by omega
  have j9 : (9 : Int) < (n : Int) := by omega
  have HD := hide hd
  obtain ⟨b', o', he, hlt, hc⟩ := hd.2 (by simp)
  simp only [Option.some.injEq, Addr.mk.injEq] at he
  obtain ⟨rfl, rfl, _⟩ := he
  have e0 : ∀ O, (w.alloc O).cell? ⟨b, o, none⟩ = some (.int .u8 h0) := fun O => (World.cell?_alloc_past O _ _ hlt).trans (by simpa using hc 0 (by simp))
  have e8 : ∀ O, (w.alloc O).cell? ⟨b, o + 8, none⟩ = some (.int .u8 0) := fun O => (World.cell?_alloc_past O _ _ hlt).trans (by simpa using hc 8 (by simp))
  have e9 : ∀ O, (w.alloc O).cell? ⟨b, o + 9, none⟩ = some (.int .u8 h9) := fun O => (World.cell?_alloc_past O _ _ hlt).trans (by simpa using hc 9 (by simp))
  have HC := hide hc
  clear hc hd
  go_enter Tryz.func32, Tryz.ntmps32
  go_wp2_with fail
  generalize hW1 : w.alloc _ = w1
  have HB1 : Hid (Below w.heap.size w w1) := by rw [← hW1]; exact (Below.refl _ _).alloc (Nat.le_refl _) _
  have HZ1 : Hid (∀ j, w1.cell? ⟨w.heap.size, j, none⟩ = #[.int .u16 0, .int .u16 0, .int .u8 0, .int .u16 0, .int .u8 0, .bool false, .int .u16 0, .int .u16 0, .slice none 0 0][j]?) := by intro j; rw [← hW1]; simp
  have HF1 : Hid (∀ j, w1.frozen? ⟨w.heap.size, j, none⟩ = false) := by intro j; rw [← hW1]; simp
  have HD1 : Hid (Has w1 (some ⟨b, o, none⟩) ([h0, h1, h2, h3, h4, h5, h6, h7, 0, h9] ++ ([h10, h11] ++ r))) := HD.out.below HB1.out
  clear hW1 e0 e8 e9
  refine (sum_any b o n cap h0 h1 h2 h3 h4 h5 h6 h7 0 h9 ([h10, h11] ++ r) w1 HD1.out (by omega) hnm (by omega) (by omega) (by omega) (by omega) (by omega) (by omega) (by omega) (by omega) (by omega) (by omega)).mono ?_
  rintro e wx ⟨rfl, m1, rfl⟩
  go_wp2_with fail
  refine (number_int b o n cap 10 10 h10 h11 (by rfl) _ b10 b11 (by omega) hnm (by exact (HB1.out.cell (p := ⟨b, o + 10, none⟩) hlt).trans (by simpa using HC.out 10 (by simp))) (by exact (HB1.out.cell (p := ⟨b, o + 11, none⟩) hlt).trans (by simpa using HC.out 11 (by simp)))).mono ?_
  rintro e wx ⟨rfl, m2, rfl⟩
  have cr := HZ1.out
  have fr := HF1.out
  go_wp2
  refine bodyPost_ret (v := .tuple #[.agg #[.int .u16 0, .int .u16 0, .int .u8 0, .int .u16 0, .int .u8 0, .bool false, .int .u16 0, .int .u16 0, .slice none 0 0], .int .i64 5]) ?_ rfl ⟨rfl, ?_⟩
  all_goals go_light
  · simp [results, Tryz.results32, go_sem, cr]
  · repeat' first | with_reducible exact HB1.out | with_reducible refine Below.setCell ?_ ?_ _ | with_reducible refine below_drewN ?_ _
    all_goals (simp; try omega)

set_option maxRecDepth 100000 in
set_option maxHeartbeats 800000 in
theorem runpack_sumQ (b o n cap : Nat) (h0 h1 h2 h3 h4 h5 h6 h7 h8 h9 h10 h11 : Int) (r : List Int) (w : World) (hn : 12 + r.length = n) (hnm : n ≤ 9223372036854775807) (hd : Has w (some ⟨b, o, none⟩) ([h0, h1, h2, h3, h4, h5, h6, h7, h8, h9, h10, h11] ++ r)) (b0 : 0 ≤ h0 ∧ h0 ≤ 255) (b1 : 0 ≤ h1 ∧ h1 ≤ 255) (b2 : 0 ≤ h2 ∧ h2 ≤ 255) (b3 : 0 ≤ h3 ∧ h3 ≤ 255) (b4 : 0 ≤ h4 ∧ h4 ≤ 255) (b5 : 0 ≤ h5 ∧ h5 ≤ 255) (b6 : 0 ≤ h6 ∧ h6 ≤ 255) (b7 : 0 ≤ h7 ∧ h7 ≤ 255) (b8 : 0 ≤ h8 ∧ h8 ≤ 255) (b9 : 0 ≤ h9 ∧ h9 ≤ 255) (b10 : 0 ≤ h10 ∧ h10 ≤ 255) (b11 : 0 ≤ h11 ∧ h11 ≤ 255) (q0 : (h0 / 2 != 8) = false) (q9 : (h9 + 12 != (n : Int)) = false) (q8 : (h8 == 0) = false) (qs : (csum h0 h1 h2 h3 h4 h5 h6 h7 h8 h9 != h10 * 256 + h11) = true) :
    Calls Tryz.prog 32 #[.slice (some ⟨b, o, none⟩) n cap] w fun e w' => e = .returned (.tuple #[.agg #[.int .u16 0, .int .u16 0, .int .u8 0, .int .u16 0, .int .u8 0, .bool false, .int .u16 0, .int .u16 0, .slice none 0 0], .int .i64 5]) ∧ Below w.heap.size w w' := by
  have i0 : 12 ≤ n := by omega
  have j0 : (0 : Int) < (n : Int) := by omega
  have j8 : (8 : Int) < (n : Int) := by omega
  have j9 : (9 : Int) < (n : Int) := by omega
  have HD := hide hd
  obtain ⟨b', o', he, hlt, hc⟩ := hd.2 (by simp)
  simp only [Option.some.injEq, Addr.mk.injEq] at he
  obtain ⟨rfl, rfl, _⟩ := he
  have e0 : ∀ O, (w.alloc O).cell? ⟨b, o, none⟩ = some (.int .u8 h0) := fun O => (World.cell?_alloc_past O _ _ hlt).trans (by simpa using hc 0 (by simp))
  have e8 : ∀ O, (w.alloc O).cell? ⟨b, o + 8, none⟩ = some (.int .u8 h8) := fun O => (World.cell?_alloc_past O _ _ hlt).trans (by simpa using hc 8 (by simp))
  have e9 : ∀ O, (w.alloc O).cell? ⟨b, o + 9, none⟩ = some (.int .u8 h9) := fun O => (World.cell?_alloc_past O _ _ hlt).trans (by simpa using hc 9 (by simp))
  have HC := hide hc
  clear hc hd
  go_enter Tryz.func32, Tryz.ntmps32
  go_wp2_with fail
  generalize hW1 : w.alloc _ = w1
  have HB1 : Hid (Below w.heap.size w w1) := by rw [← hW1]; exact (Below.refl _ _).alloc (Nat.le_refl _) _
  have HZ1 : Hid (∀ j, w1.cell? ⟨w.heap.size, j, none⟩ = #[.int .u16 0, .int .u16 0, .int .u8 0, .int .u16 0, .int .u8 0, .bool false, .int .u16 0, .int .u16 0, .slice none 0 0][j]?) := by intro j; rw [← hW1]; simp
  have HF1 : Hid (∀ j, w1.frozen? ⟨w.heap.size, j, none⟩ = false) := by intro j; rw [← hW1]; simp
  have HD1 : Hid (Has w1 (some ⟨b, o, none⟩) ([h0, h1, h2, h3, h4, h5, h6, h7, h8, h9] ++ ([h10, h11] ++ r))) := HD.out.below HB1.out
  clear hW1 e0 e8 e9
  refine (sum_any b o n cap h0 h1 h2 h3 h4 h5 h6 h7 h8 h9 ([h10, h11] ++ r) w1 HD1.out (by omega) hnm (by omega) (by omega) (by omega) (by omega) (by omega) (by omega) (by omega) (by omega) (by omega) (by omega)).mono ?_
  rintro e wx ⟨rfl, m1, rfl⟩
  go_wp2_with fail
  refine (number_int b o n cap 10 10 h10 h11 (by rfl) _ b10 b11 (by omega) hnm (by exact (HB1.out.cell (p := ⟨b, o + 10, none⟩) hlt).trans (by simpa using HC.out 10 (by simp))) (by exact (HB1.out.cell (p := ⟨b, o + 11, none⟩) hlt).trans (by simpa using HC.out 11 (by simp)))).mono ?_
  rintro e wx ⟨rfl, m2, rfl⟩
  have cr := HZ1.out
  have fr := HF1.out
  go_wp2
  refine bodyPost_ret (v := .tuple #[.agg #[.int .u16 0, .int .u16 0, .int .u8 0, .int .u16 0, .int .u8 0, .bool false, .int .u16 0, .int .u16 0, .slice none 0 0], .int .i64 5]) ?_ rfl ⟨rfl, ?_⟩
  all_goals go_light
  · simp [results, Tryz.results32, go_sem, cr]
  · repeat' first | with_reducible exact HB1.out | with_reducible refine Below.setCell ?_ ?_ _ | with_reducible refine below_drewN ?_ _
    all_goals (simp; try omega)

end Go.Proofs.YtajphdppmdoalaaGreat
