import Derived.Test.YtajphdppmdoalaaZPCtoQA
import Derived.Test.YtajphdppmdoalaaZJ1toLP
namespace Go.Proofs.Ytajphdppmdoalaa
open Go.RowKit
set_option linter.unusedVariables false

/-- Ints that lie behind an address. -/
def HasZ (w : World) (ao : Option Addr) (zs : List Int) : Prop := (ao = none → zs = []) ∧ (zs ≠ [] → ∃ b f, ao = some ⟨b, f, none⟩ ∧ b < w.heap.size ∧ ∀ j, j < zs.length → w.cell? ⟨b, f + j, none⟩ = some (.int .i64 (zs.getD j 0)))
theorem HasZ.only {w w' : World} {G : Nat → Prop} {ao : Option Addr} {zs : List Int} (h : HasZ w ao zs) (ho : Only G w w') (hG : ∀ a, ao = some a → ¬ G a.block) : HasZ w' ao zs := by
  refine ⟨h.1, fun hz => ?_⟩
  obtain ⟨b, o, rfl, hlt, hc⟩ := h.2 hz
  exact ⟨b, o, rfl, Nat.lt_of_lt_of_le hlt ho.size, fun j hj => (ho.cell (p := ⟨b, o + j, none⟩) hlt (hG ⟨b, o, none⟩ rfl)).trans (hc j hj)⟩
theorem HasZ.below {w w' : World} {ao : Option Addr} {zs : List Int} (h : HasZ w ao zs) (hb : Below w.heap.size w w') : HasZ w' ao zs := h.only (G := fun _ => False) (Only.of_below hb) (fun _ _ hh => hh)
def iv (u : Nat) : Value := .int .i64 u
theorem Try.infoInt : (Try.prog.info? 3).map (fun i => (i.zero, i.size, i.bytes)) = some (some (.int .i64 0), 1, 8) := by kernel_rfl
/-- Each step is at most m. -/
def gapsLe (m : Nat) : Nat → List Nat → Prop
  | _, [] => True
  | u, v :: r => v ≤ u + m ∧ gapsLe m v r
theorem rises_snoc (u : Nat) (r : List Nat) (v : Nat) (h : rises u r) (hv : lastU u r < v) : rises u (r ++ [v]) := by
  induction r generalizing u with
  | nil => exact ⟨hv, trivial⟩
  | cons x r ih => exact ⟨h.1, ih x h.2 hv⟩
theorem gaps_snoc (m u : Nat) (r : List Nat) (v : Nat) (h : gapsLe m u r) (hv : v ≤ lastU u r + m) : gapsLe m u (r ++ [v]) := by
  induction r generalizing u with
  | nil => exact ⟨hv, trivial⟩
  | cons x r ih => exact ⟨h.1, ih x h.2 hv⟩
theorem last_snoc (u : Nat) (r : List Nat) (v : Nat) : lastU u (r ++ [v]) = v := by
  induction r generalizing u with
  | nil => rfl
  | cons x r ih => exact ih x

set_option maxRecDepth 100000 in
set_option maxHeartbeats 1600000 in
theorem cut_any (zs : List Int) (m n cap : Nat) (ao : Option Addr) (w : World) (hl : zs.length = n) (hm : m ≤ 7) (hz : ∀ z ∈ zs, -9223372036854775808 ≤ z ∧ z ≤ 9223372036854775807 ∧ pk z 8 ≤ m) (hd : HasZ w ao zs) (hn : n ≤ 9223372036854775807) :
    Calls Try.prog 32 #[.slice ao n cap, .int .i64 8] w fun e w' => ∃ v r, e = .returned v ∧ w'.ownsRow w.heap.size 3 1 v (r.length + 1) ((0 :: r).map iv) ∧ rises 0 r ∧ gapsLe (m + 1) 0 r ∧ lastU 0 r ≤ 15 ∧ (r.length ≤ 7 ∧ r.length ≤ n) ∧ Below w.heap.size w w' := by
  obtain ⟨i5, hi, hz5, hz6, hz7⟩ := info_parts Try.infoInt
  go_enter Try.func32, Try.ntmps32
  go_wp2_with fail
  have HO0 : Hid ((w.alloc (.cells #[.int .i64 0] 3)).ownsRow w.heap.size 3 1 (.slice (some ⟨w.heap.size, 0, none⟩) 1 1) 1 ((0 :: ([] : List Nat)).map iv)) := own_build w 3 [.int .i64 0] (by decide)
  have HB0 : Hid (Below w.heap.size w (w.alloc (.cells #[.int .i64 0] 3))) := (Below.refl _ _).alloc (Nat.le_refl _) _
  generalize w.alloc (.cells #[.int .i64 0] 3) = w1 at *
  go_loopw [5, 6, 7] (fun a5 a6 a7 wr => ∃ (i : Nat) (r : List Nat), i ≤ n ∧ (r.length ≤ 7 ∧ r.length ≤ i) ∧ a7 = .int .i64 i ∧ a6 = .int .i64 (lastU 0 r : Nat) ∧ Hid (wr.ownsRow w.heap.size 3 1 a5 (r.length + 1) ((0 :: r).map iv)) ∧ Hid (rises 0 r ∧ gapsLe (m + 1) 0 r) ∧ lastU 0 r ≤ 15 ∧ Hid (Below w.heap.size w wr)) (fun _ _ a7 _ => n - (intOf a7).toNat)
  case atStart => exact ⟨0, [], by omega, ⟨by simp, by simp⟩, rfl, rfl, HO0.out, ⟨trivial, trivial⟩, by simp [lastU], HB0.out⟩
  case round =>
    obtain ⟨i, r, hi', hr, rfl, rfl, HO, HR, hla, HB⟩ := hrel
    clear HO0 HB0
    obtain ⟨g, cv, rfl⟩ := (own_shape HO.out).resolve_left (by
      rintro rfl
      rcases HO.out.2 with ⟨_, h⟩ | ⟨_, _, _, h, _⟩
      · omega
      · simp at h)
    by_cases hlt : i < n
    · by_cases hr7 : r.length < 7
      · have hzi : i < zs.length := by omega
        obtain ⟨b, f, rfl, hbl, hcs⟩ := hd.2 (by rintro rfl; simp at hzi)
        have s0 := (HB.out.cell (p := ⟨b, f + i, none⟩) hbl).trans (hcs i hzi)
        have hzb := hz (zs.getD i 0) (by rw [List.getD_eq_getElem?_getD, List.getElem?_eq_getElem hzi]; exact List.getElem_mem hzi)
        generalize zs.getD i 0 = z at *
        have i1 : (i : Int) < (n : Int) := by omega
        have i2 : ((r.length + 1 : Nat) : Int) < 8 := by omega
        have hsz : w.heap.size ≤ wr.heap.size := HB.out.size
        go_wp2_with fail
        refine (pick_any z 8 _ hzb.1 hzb.2.1 (by decide) (by decide)).mono ?_
        rintro e w2 ⟨rfl, rfl⟩
        have hpb := pk_bd z 8 (by decide)
        obtain ⟨u, hu⟩ := Int.eq_ofNat_of_zero_le hpb.1
        have hum := hzb.2.2
        rw [hu] at hpb hum ⊢
        obtain ⟨v, hv⟩ : ∃ v : Nat, v = lastU 0 r + 1 + u := ⟨_, rfl⟩
        have HR2 : Hid (rises 0 (r ++ [v]) ∧ gapsLe (m + 1) 0 (r ++ [v]) ∧ lastU 0 (r ++ [v]) = v) := ⟨rises_snoc 0 r v HR.out.1 (by omega), gaps_snoc (m + 1) 0 r v HR.out.2 (by omega), last_snoc 0 r v⟩
        have HLA := hide hla
        generalize lastU 0 r = la at hla hv ⊢
        clear s0 hu
        by_cases h15 : v ≤ 15
        · have i3 : ¬ (15 < (la : Int) + 1 + (u : Int)) := by omega
          go_wp2_with (at_builtin; refine wpList_append_own _ rfl (.tmp 31) (.tmp 33) 41 rfl w.heap.size 3 i5 (.int .i64 0) 1 8 Try.underlying41 hi hz5 hz6 hz7 rfl (by decide) _ _ _ rfl (HO.out.alloc _) ⟨w2.heap.size, 0, none⟩ 1 1 [_] rfl rfl (cell_one_new _ _ _) (by simp [Value.oneCell']) (by unfold maxLen; omega) (by omega) (by simp; omega) ?_)
          intro v5 w5 hown hgrow hiff
          have HO5 := hide hown
          have HB5 : Hid (Below w.heap.size w w5) := (HB.out.alloc hsz _).grown hgrow (by simp; omega) (fun q hq => by have := (HO.out.lt q hq).1; omega)
          clear hown hiff hgrow
          go_wp2
          go_roundw
          case rel => exact ⟨i + 1, r ++ [v], by omega, ⟨by simp; omega, by simp; omega⟩, by go_num, by rw [HR2.out.2.2, hv]; go_num, by
            rw [List.length_append, show ((0 :: (r ++ [v])).map iv) = (0 :: r).map iv ++ [.int .i64 ((la : Int) + 1 + (u : Int))] by simp [iv, hv]]
            exact HO5.out, ⟨HR2.out.1, HR2.out.2.1⟩, by rw [HR2.out.2.2]; exact h15, HB5.out⟩
          case measure => simp [intOf]; omega
        · have i3 : 15 < (la : Int) + 1 + (u : Int) := by omega
          go_wp2
          go_ret
          exact ⟨_, r, rfl, HO.out, HR.out.1, HR.out.2, HLA.out, ⟨hr.1, by omega⟩, HB.out⟩
      · have i1 : (i : Int) < (n : Int) := by omega
        have i2 : ¬ ((r.length + 1 : Nat) : Int) < 8 := by omega
        have i3 : ¬ ((r.length : Int) + 1) < 8 := by omega
        go_wp2
        go_ret
        exact ⟨_, rfl, r, HO.out, HR.out.1, HR.out.2, hla, ⟨hr.1, by omega⟩, HB.out⟩
    · go_wp2
      go_ret
      exact ⟨_, r, rfl, HO.out, HR.out.1, HR.out.2, hla, ⟨hr.1, by omega⟩, HB.out⟩

end Go.Proofs.Ytajphdppmdoalaa
