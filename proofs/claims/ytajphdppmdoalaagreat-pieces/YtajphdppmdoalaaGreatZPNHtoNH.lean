import Derived.Test.YtajphdppmdoalaaGreatZPNGtoNG
import Derived.Test.YtajphdppmdoalaaGreatZPNCtoNC
import Derived.Deep.DeepCutAuto
namespace Go.Proofs.YtajphdppmdoalaaGreat
open Go.RowKit
set_option linter.unusedVariables false

/-- A world behind w, in which the block X holds cs. -/
def FxW (X : Nat) (w : World) (cs : Array Value) (w' : World) : Prop := Below X w w' ∧ X < w'.heap.size ∧ ∀ j, w'.cell? ⟨X, j, none⟩ = cs[j]?
theorem FxW.below {X : Nat} {w w' w'' : World} {cs : Array Value} (h : FxW X w cs w') (hb : Below w'.heap.size w' w'') : FxW X w cs w'' :=
  ⟨h.1.trans (hb.mono (Nat.le_of_lt h.2.1)), Nat.lt_of_lt_of_le h.2.1 hb.size, fun j => (hb.cell (p := ⟨X, j, none⟩) h.2.1).trans (h.2.2 j)⟩
theorem FxW.alloc {X : Nat} {w w' : World} {cs : Array Value} (h : FxW X w cs w') (o : Obj) : FxW X w cs (w'.alloc o) := h.below ((Below.refl _ _).alloc (Nat.le_refl _) _)
theorem FxW.drew {X : Nat} {w w' : World} {cs : Array Value} (h : FxW X w cs w') : FxW X w cs w'.drew := h.below (Below.refl _ _).drew

/-- refuse's way through, in the program's words. -/
theorem refS_prog (R : List PE) (k : Nat) (p : Pk) (seq : Nat) (ok : Bool) (h0 : 0 ≤ p.off) (hp : ∀ r ∈ R, r.e.pcs.Pairwise (fun q r => clashM q r = false)) :
    refS (R.map PE.e) k (pcM seq p) ok =
      if p.off = 0 ∧ ok = false then 2
      else if R.length ≤ k ∧ 3 ≤ R.length then 4
      else if (R[k]?.map (fun r => (endO r.e.pcs).isSome && (!p.more || decide ((endO r.e.pcs).getD 0 < p.off * 4 + p.dlen)) || r.e.pcs.any (barS (p.off * 4) (p.off * 4 + p.dlen) (!p.more)))).getD false then 3
      else if p.off ≠ 0 ∧ (R[k]?.map (fun r => r.e.known)).getD false = false ∧ 48 < bytesL (heldL R) + p.dlen then 4
      else 0 := by
  unfold refS
  have ha : (pcM seq p).a = p.off * 4 := by simp [pcM]; omega
  have hb : (pcM seq p).b = p.off * 4 + p.dlen := by simp [pcM]; omega
  have he : (pcM seq p).ends = !p.more := rfl
  have h1 : (pcM seq p).a = 0 ↔ p.off = 0 := by rw [ha]; omega
  have h2 : 0 < (pcM seq p).a ↔ p.off ≠ 0 := by rw [ha]; omega
  have h3 : (Option.map (fun e => e.pcs.any fun q => clashM q (pcM seq p)) (Option.map PE.e R[k]?)) = R[k]?.map (fun r => (endO r.e.pcs).isSome && (!p.more || decide ((endO r.e.pcs).getD 0 < p.off * 4 + p.dlen)) || r.e.pcs.any (barS (p.off * 4) (p.off * 4 + p.dlen) (!p.more))) := by
    cases hk : R[k]? with
    | none => rfl
    | some r =>
      simp only [Option.map_some]
      rw [clash_prog r.e.pcs (pcM seq p) (hp r (List.mem_of_getElem? hk)), ha, hb, he]
  have h4 : (Option.map (fun x => x.known) (Option.map PE.e R[k]?)) = R[k]?.map (fun r => r.e.known) := by cases R[k]? <;> rfl
  have h5 : bytesL ((R.map PE.e).flatMap waitL) + (pcM seq p).b - (pcM seq p).a = bytesL (heldL R) + p.dlen := by
    rw [ha, hb]; unfold heldL; omega
  simp only [h1, h2, List.length_map, List.getElem?_map, h3, h4, h5]

set_option maxRecDepth 100000 in
set_option maxHeartbeats 3200000 in
theorem refuse_any (gS i : Nat) (vE : Value) (R : List PE) (now : Int) (F : Nat → Prop) (k seq : Nat) (p : Pk) (ok : Bool) (w : World) (hg : gS < w.heap.size) (c0 : w.cell? ⟨gS, i, none⟩ = some vE) (h : StIs w vE R now F) (hf : PFew R) (hk : k ≤ R.length)
    (hp : ∀ r ∈ R, r.e.pcs.Pairwise (fun q r => clashM q r = false)) (ho0 : 0 ≤ p.off) (ho1 : p.off ≤ 255) (hd : p.dlen ≤ 1000) :
    Calls Tryz.prog 106 #[.pointer (some ⟨gS, i, none⟩), p.pc, .int .i64 k, .int .i64 (if ok then 0 else 7)] w fun e w' => e = .returned (.tuple #[.int .u8 (refS (R.map PE.e) k (pcM seq p) ok), .bool (refS (R.map PE.e) k (pcM seq p) ok != 0)]) ∧ Below w.heap.size w w' := by
  have HH := hide h
  have HFW := hide hf
  have hn : R.length ≤ 1000 := hf.1
  have HFI := hide (fun w => pfirst_eq p w)
  have HRF := hide (refS_prog R k p seq ok ho0 hp)
  have HCL := hide (fun (g o : Nat) (l : List Pc) (sv : Value) (w : World) (hg : g < w.heap.size) c5 c6 c7 hS hb => clashes_any g o l sv p w hg c5 c6 c7 hS hb ho0 ho1 hd)
  obtain ⟨ao, cap, rfl⟩ := own_slice h.rE
  clear h hf hp
  generalize refS (R.map PE.e) k (pcM seq p) ok = f at *
  obtain ⟨src, dst, proto, id, off, more, sport, dport, n⟩ := p
  unfold Pk.pc at *
  unfold Pk.box at HFI
  simp only at *
  generalize hX : w.heap.size = X at *
  have hHW : Below X w w := hX ▸ Below.refl _ _
  by_cases h1 : off = 0 ∧ ok = false
  · obtain ⟨rfl, rfl⟩ := h1
    have HF : Hid (f = 2) := by show _ = _; rw [HRF.out]; simp
    go_enter Tryz.func106, Tryz.ntmps106
    go_wp2_with (go_at_call 110; refine (HFI.out _).mono ?_; rintro e w' ⟨rfl, rfl⟩)
    go_ret2
    exact ⟨by rw [HF.out]; rfl, ((hHW.alloc (by omega) _).alloc (by simp; omega) _)⟩
  · by_cases h1 : off = 0
    · subst h1
      have hok : ok = true := by cases ok <;> simp_all
      subst hok
      go_enter Tryz.func106, Tryz.ntmps106
      go_upto_if 17 with (go_at_call 110; refine (HFI.out _).mono ?_; rintro e w' ⟨rfl, rfl⟩)
      have HBo : Hid (Below X w ((w.alloc (.cells #[.int .u16 src, .int .u16 dst, .int .u8 proto, .int .u16 id, .int .u8 0, .bool more, .int .u16 sport, .int .u16 dport, .slice none 0 0, .int .i64 n] 112)).alloc (.cells #[.int .u16 src, .int .u16 dst, .int .u8 proto, .int .u16 id, .int .u8 0, .bool more, .int .u16 sport, .int .u16 dport, .slice none 0 0, .int .i64 n] 112))) := ((hHW.alloc (by omega) _).alloc (by simp; omega) _)
      have cX : ∀ j, ((w.alloc (.cells #[.int .u16 src, .int .u16 dst, .int .u8 proto, .int .u16 id, .int .u8 0, .bool more, .int .u16 sport, .int .u16 dport, .slice none 0 0, .int .i64 n] 112)).alloc (.cells #[.int .u16 src, .int .u16 dst, .int .u8 proto, .int .u16 id, .int .u8 0, .bool more, .int .u16 sport, .int .u16 dport, .slice none 0 0, .int .i64 n] 112)).cell? ⟨X, j, none⟩ = #[.int .u16 src, .int .u16 dst, .int .u8 proto, .int .u16 id, .int .u8 0, .bool more, .int .u16 sport, .int .u16 dport, .slice none 0 0, .int .i64 n][j]? := fun j => hX ▸ box_cell (((Below.refl (w.heap.size + 1) (w.alloc (.cells #[.int .u16 src, .int .u16 dst, .int .u8 proto, .int .u16 id, .int .u8 0, .bool more, .int .u16 sport, .int .u16 dport, .slice none 0 0, .int .i64 n] 112)))).alloc (by simp) _) j
      have hz1 : X + 2 ≤ ((w.alloc (.cells #[.int .u16 src, .int .u16 dst, .int .u8 proto, .int .u16 id, .int .u8 0, .bool more, .int .u16 sport, .int .u16 dport, .slice none 0 0, .int .i64 n] 112)).alloc (.cells #[.int .u16 src, .int .u16 dst, .int .u8 proto, .int .u16 id, .int .u8 0, .bool more, .int .u16 sport, .int .u16 dport, .slice none 0 0, .int .i64 n] 112)).heap.size := by simp [hX]
      generalize (w.alloc (.cells #[.int .u16 src, .int .u16 dst, .int .u8 proto, .int .u16 id, .int .u8 0, .bool more, .int .u16 sport, .int .u16 dport, .slice none 0 0, .int .i64 n] 112)).alloc (.cells #[.int .u16 src, .int .u16 dst, .int .u8 proto, .int .u16 id, .int .u8 0, .bool more, .int .u16 sport, .int .u16 dport, .slice none 0 0, .int .i64 n] 112) = w1 at *
      have HF1 : Hid (FxW X w #[.int .u16 src, .int .u16 dst, .int .u8 proto, .int .u16 id, .int .u8 0, .bool more, .int .u16 sport, .int .u16 dport, .slice none 0 0, .int .i64 n] w1) := ⟨HBo.out, by omega, cX⟩
      have HF1d := hide HF1.out.drew
      have e0 := (HBo.out.cell (p := ⟨gS, i, none⟩) hg).trans c0
      have hg1 : gS < w1.heap.size := by omega
      have hX1 : X < w1.heap.size := by omega
      have HD := hide (fun w7 (hb7 : FxW X w #[.int .u16 src, .int .u16 dst, .int .u8 proto, .int .u16 id, .int .u8 0, .bool more, .int .u16 sport, .int .u16 dport, .slice none 0 0, .int .i64 n] w7) => And.intro ((hb7.1.cell (p := ⟨gS, i, none⟩) hg).trans c0) (show gS < w7.heap.size from Nat.lt_trans hg hb7.2.1))
      by_cases hbg : k < R.length
      · obtain ⟨r, hr⟩ : ∃ r, R[k]? = some r := ⟨_, List.getElem?_eq_getElem hbg⟩
        obtain ⟨g, q, hgq⟩ := own_some HH.out.rE (by omega)
        rw [Value.slice.injEq] at hgq
        obtain ⟨rfl, _, rfl⟩ := hgq
        have HN := hide HH.out.rE
        have hgz : g < X := by have := (HN.out.lt g rfl).2; omega
        have HCW : Hid (∀ wz, FxW X w #[.int .u16 src, .int .u16 dst, .int .u8 proto, .int .u16 id, .int .u8 0, .bool more, .int .u16 sport, .int .u16 dport, .slice none 0 0, .int .i64 n] wz → Calls Tryz.prog 111 #[.pointer (some ⟨g, k * 11, none⟩), .agg #[.int .u16 src, .int .u16 dst, .int .u8 proto, .int .u16 id, .int .u8 0, .bool more, .int .u16 sport, .int .u16 dport, .slice none 0 0, .int .i64 n]] wz fun e w' => e = .returned (.bool ((endO r.e.pcs).isSome && (!more || decide ((endO r.e.pcs).getD 0 < 0 * 4 + n)) || r.e.pcs.any (barS (0 * 4) (0 * 4 + n) (!more)))) ∧ FxW X w #[.int .u16 src, .int .u16 dst, .int .u8 proto, .int .u16 id, .int .u8 0, .bool more, .int .u16 sport, .int .u16 dport, .slice none 0 0, .int .i64 n] w') := by
          intro wz hb
          have hs := HH.out.below (hX ▸ hb.1)
          exact (HCL.out g (k * 11) r.e.pcs r.sv wz (Nat.lt_trans hgz hb.2.1) (row_get (PE.cells now) (PE.len now) hs.rE k r hr 5 _ rfl) (row_get (PE.cells now) (PE.len now) hs.rE k r hr 6 _ rfl) (row_get (PE.cells now) (PE.len now) hs.rE k r hr 7 _ rfl) (hs.rs r (List.mem_of_getElem? hr)) (HFW.out.2 r (List.mem_of_getElem? hr))).mono (fun e w' he => And.intro he.1 (hb.below he.2))
        have HR8 : Hid (w.cell? ⟨g, k * 11 + 8, none⟩ = some (.bool r.e.known)) := row_get (PE.cells now) (PE.len now) HN.out k r hr 8 _ rfl
        have HRr := hide hr
        generalize hC : ((endO r.e.pcs).isSome && (!more || decide ((endO r.e.pcs).getD 0 < 0 * 4 + n)) || r.e.pcs.any (barS (0 * 4) (0 * 4 + n) (!more))) = C at *
        have HCC := hide hC
        generalize hKn : r.e.known = kn at *
        have HKN := hide hKn
        clear hr hC hKn
        have hbk : (k : Int) < (R.length : Int) := by omega
        have hnb : ¬ R.length ≤ k := by omega
        have HD8 := hide (fun w7 (hb7 : FxW X w #[.int .u16 src, .int .u16 dst, .int .u8 proto, .int .u16 id, .int .u8 0, .bool more, .int .u16 sport, .int .u16 dport, .slice none 0 0, .int .i64 n] w7) => And.intro ((hb7.1.cell (p := ⟨g, k * 11 + 8, none⟩) hgz).trans HR8.out) (show g < w7.heap.size from Nat.lt_trans hgz hb7.2.1))
        go_wp2_with (go_at_call 110; refine (HFI.out _).mono ?_; rintro e w' ⟨rfl, rfl⟩)
        cases C with
        | true =>
          have HF : Hid (f = 3) := by show _ = _; rw [HRF.out]; rw [HRr.out]; simp only [Option.map_some, Option.getD_some, HCC.out]; simp [hnb]
          go_region_with (go_at_call 111; refine (HCW.out _ HF1d.out).mono ?_; rintro e w7 ⟨rfl, HX7⟩)
          all_goals go_wp2
          all_goals go_ret2
          all_goals exact ⟨by rw [HF.out]; rfl, HX7.1⟩
        | false =>
          have HF : Hid (f = 0) := by show _ = _; rw [HRF.out]; rw [HRr.out]; simp only [Option.map_some, Option.getD_some, HCC.out]; simp [hnb]
          go_region_with (go_at_call 111; refine (HCW.out _ HF1d.out).mono ?_; rintro e w7 ⟨rfl, HX7⟩)
          all_goals (have x7 := HX7.2.2; have hX7 := HX7.2.1; obtain ⟨d7, hg7⟩ := HD.out w7 HX7; have d8 := HD8.out w7 HX7; have HY7 := hide HX7; clear HX7)
          all_goals go_wp2_with (go_at_call 110; refine (HFI.out _).mono ?_; rintro e w' ⟨rfl, rfl⟩)
          all_goals go_ret2
          all_goals exact ⟨by rw [HF.out]; rfl, HY7.out.1.alloc (Nat.le_of_lt HY7.out.2.1) _⟩
      · have hbk : (R.length : Int) ≤ (k : Int) := by omega
        have hnk : R[k]? = none := List.getElem?_eq_none (by omega)
        have hle : R.length ≤ k := by omega
        by_cases h3 : 3 ≤ R.length
        · have HF : Hid (f = 4) := by show _ = _; rw [HRF.out]; simp [h3, hle]
          have h3' : (3 : Int) ≤ (R.length : Int) := by omega
          go_wp2_with (go_at_call 110; refine (HFI.out _).mono ?_; rintro e w' ⟨rfl, rfl⟩)
          go_ret2
          exact ⟨by rw [HF.out]; rfl, HF1.out.1⟩
        · have h3' : (R.length : Int) < 3 := by omega
          have HF : Hid (f = 0) := by show _ = _; rw [HRF.out, hnk]; simp [h3]
          go_wp2_with (go_at_call 110; refine (HFI.out _).mono ?_; rintro e w' ⟨rfl, rfl⟩)
          go_region
          go_wp2_with (go_at_call 110; refine (HFI.out _).mono ?_; rintro e w' ⟨rfl, rfl⟩)
          go_ret2
          exact ⟨by rw [HF.out]; rfl, (HF1d.out.alloc _).1⟩
    · generalize (if ok = true then (0 : Int) else 7) = ec
      go_enter Tryz.func106, Tryz.ntmps106
      have hb1 : (off == 0) = false := by simp [h1]
      go_upto_if 17 with (go_at_call 110; refine (HFI.out _).mono ?_; rintro e w' ⟨rfl, rfl⟩)
      have HBo : Hid (Below X w ((w.alloc (.cells #[.int .u16 src, .int .u16 dst, .int .u8 proto, .int .u16 id, .int .u8 off, .bool more, .int .u16 sport, .int .u16 dport, .slice none 0 0, .int .i64 n] 112)).alloc (.cells #[.int .u16 src, .int .u16 dst, .int .u8 proto, .int .u16 id, .int .u8 off, .bool more, .int .u16 sport, .int .u16 dport, .slice none 0 0, .int .i64 n] 112))) := ((hHW.alloc (by omega) _).alloc (by simp; omega) _)
      have cX : ∀ j, ((w.alloc (.cells #[.int .u16 src, .int .u16 dst, .int .u8 proto, .int .u16 id, .int .u8 off, .bool more, .int .u16 sport, .int .u16 dport, .slice none 0 0, .int .i64 n] 112)).alloc (.cells #[.int .u16 src, .int .u16 dst, .int .u8 proto, .int .u16 id, .int .u8 off, .bool more, .int .u16 sport, .int .u16 dport, .slice none 0 0, .int .i64 n] 112)).cell? ⟨X, j, none⟩ = #[.int .u16 src, .int .u16 dst, .int .u8 proto, .int .u16 id, .int .u8 off, .bool more, .int .u16 sport, .int .u16 dport, .slice none 0 0, .int .i64 n][j]? := fun j => hX ▸ box_cell (((Below.refl (w.heap.size + 1) (w.alloc (.cells #[.int .u16 src, .int .u16 dst, .int .u8 proto, .int .u16 id, .int .u8 off, .bool more, .int .u16 sport, .int .u16 dport, .slice none 0 0, .int .i64 n] 112)))).alloc (by simp) _) j
      have hz1 : X + 2 ≤ ((w.alloc (.cells #[.int .u16 src, .int .u16 dst, .int .u8 proto, .int .u16 id, .int .u8 off, .bool more, .int .u16 sport, .int .u16 dport, .slice none 0 0, .int .i64 n] 112)).alloc (.cells #[.int .u16 src, .int .u16 dst, .int .u8 proto, .int .u16 id, .int .u8 off, .bool more, .int .u16 sport, .int .u16 dport, .slice none 0 0, .int .i64 n] 112)).heap.size := by simp [hX]
      generalize (w.alloc (.cells #[.int .u16 src, .int .u16 dst, .int .u8 proto, .int .u16 id, .int .u8 off, .bool more, .int .u16 sport, .int .u16 dport, .slice none 0 0, .int .i64 n] 112)).alloc (.cells #[.int .u16 src, .int .u16 dst, .int .u8 proto, .int .u16 id, .int .u8 off, .bool more, .int .u16 sport, .int .u16 dport, .slice none 0 0, .int .i64 n] 112) = w1 at *
      have HF1 : Hid (FxW X w #[.int .u16 src, .int .u16 dst, .int .u8 proto, .int .u16 id, .int .u8 off, .bool more, .int .u16 sport, .int .u16 dport, .slice none 0 0, .int .i64 n] w1) := ⟨HBo.out, by omega, cX⟩
      have HF1d := hide HF1.out.drew
      have e0 := (HBo.out.cell (p := ⟨gS, i, none⟩) hg).trans c0
      have hg1 : gS < w1.heap.size := by omega
      have hX1 : X < w1.heap.size := by omega
      have HD := hide (fun w7 (hb7 : FxW X w #[.int .u16 src, .int .u16 dst, .int .u8 proto, .int .u16 id, .int .u8 off, .bool more, .int .u16 sport, .int .u16 dport, .slice none 0 0, .int .i64 n] w7) => And.intro ((hb7.1.cell (p := ⟨gS, i, none⟩) hg).trans c0) (show gS < w7.heap.size from Nat.lt_trans hg hb7.2.1))
      by_cases hbg : k < R.length
      · obtain ⟨r, hr⟩ : ∃ r, R[k]? = some r := ⟨_, List.getElem?_eq_getElem hbg⟩
        obtain ⟨g, q, hgq⟩ := own_some HH.out.rE (by omega)
        rw [Value.slice.injEq] at hgq
        obtain ⟨rfl, _, rfl⟩ := hgq
        have HN := hide HH.out.rE
        have hgz : g < X := by have := (HN.out.lt g rfl).2; omega
        have HCW : Hid (∀ wz, FxW X w #[.int .u16 src, .int .u16 dst, .int .u8 proto, .int .u16 id, .int .u8 off, .bool more, .int .u16 sport, .int .u16 dport, .slice none 0 0, .int .i64 n] wz → Calls Tryz.prog 111 #[.pointer (some ⟨g, k * 11, none⟩), .agg #[.int .u16 src, .int .u16 dst, .int .u8 proto, .int .u16 id, .int .u8 off, .bool more, .int .u16 sport, .int .u16 dport, .slice none 0 0, .int .i64 n]] wz fun e w' => e = .returned (.bool ((endO r.e.pcs).isSome && (!more || decide ((endO r.e.pcs).getD 0 < off * 4 + n)) || r.e.pcs.any (barS (off * 4) (off * 4 + n) (!more)))) ∧ FxW X w #[.int .u16 src, .int .u16 dst, .int .u8 proto, .int .u16 id, .int .u8 off, .bool more, .int .u16 sport, .int .u16 dport, .slice none 0 0, .int .i64 n] w') := by
          intro wz hb
          have hs := HH.out.below (hX ▸ hb.1)
          exact (HCL.out g (k * 11) r.e.pcs r.sv wz (Nat.lt_trans hgz hb.2.1) (row_get (PE.cells now) (PE.len now) hs.rE k r hr 5 _ rfl) (row_get (PE.cells now) (PE.len now) hs.rE k r hr 6 _ rfl) (row_get (PE.cells now) (PE.len now) hs.rE k r hr 7 _ rfl) (hs.rs r (List.mem_of_getElem? hr)) (HFW.out.2 r (List.mem_of_getElem? hr))).mono (fun e w' he => And.intro he.1 (hb.below he.2))
        have HR8 : Hid (w.cell? ⟨g, k * 11 + 8, none⟩ = some (.bool r.e.known)) := row_get (PE.cells now) (PE.len now) HN.out k r hr 8 _ rfl
        have HRr := hide hr
        generalize hC : ((endO r.e.pcs).isSome && (!more || decide ((endO r.e.pcs).getD 0 < off * 4 + n)) || r.e.pcs.any (barS (off * 4) (off * 4 + n) (!more))) = C at *
        have HCC := hide hC
        generalize hKn : r.e.known = kn at *
        have HKN := hide hKn
        clear hr hC hKn
        have hbk : (k : Int) < (R.length : Int) := by omega
        have hnb : ¬ R.length ≤ k := by omega
        have HD8 := hide (fun w7 (hb7 : FxW X w #[.int .u16 src, .int .u16 dst, .int .u8 proto, .int .u16 id, .int .u8 off, .bool more, .int .u16 sport, .int .u16 dport, .slice none 0 0, .int .i64 n] w7) => And.intro ((hb7.1.cell (p := ⟨g, k * 11 + 8, none⟩) hgz).trans HR8.out) (show g < w7.heap.size from Nat.lt_trans hgz hb7.2.1))
        go_wp2_with (go_at_call 110; refine (HFI.out _).mono ?_; rintro e w' ⟨rfl, rfl⟩)
        cases C with
        | true =>
          have HF : Hid (f = 3) := by show _ = _; rw [HRF.out]; rw [HRr.out]; simp only [Option.map_some, Option.getD_some, HCC.out]; simp [hnb, h1]
          go_region_with (go_at_call 111; refine (HCW.out _ HF1d.out).mono ?_; rintro e w7 ⟨rfl, HX7⟩)
          all_goals go_wp2
          all_goals go_ret2
          all_goals exact ⟨by rw [HF.out]; rfl, HX7.1⟩
        | false =>
          cases kn with
          | true =>
            have HF : Hid (f = 0) := by show _ = _; rw [HRF.out]; rw [HRr.out]; simp only [Option.map_some, Option.getD_some, HCC.out, HKN.out]; simp [hnb, h1]
            go_region_with (go_at_call 111; refine (HCW.out _ HF1d.out).mono ?_; rintro e w7 ⟨rfl, HX7⟩)
            all_goals (have x7 := HX7.2.2; have hX7 := HX7.2.1; obtain ⟨d7, hg7⟩ := HD.out w7 HX7; have d8 := HD8.out w7 HX7; have HY7 := hide HX7; clear HX7)
            all_goals obtain ⟨d8, hgg7⟩ := d8
            all_goals go_wp2_with (go_at_call 110; refine (HFI.out _).mono ?_; rintro e w' ⟨rfl, rfl⟩)
            all_goals go_ret2
            all_goals exact ⟨by rw [HF.out]; rfl, HY7.out.1.alloc (Nat.le_of_lt HY7.out.2.1) _⟩
          | false =>
            have HLD := hide (fun wz (hb : FxW X w #[.int .u16 src, .int .u16 dst, .int .u8 proto, .int .u16 id, .int .u8 off, .bool more, .int .u16 sport, .int .u16 dport, .slice none 0 0, .int .i64 n] wz) => (load_any gS i _ R now F wz (Nat.lt_trans hg hb.2.1) ((hb.1.cell (p := ⟨gS, i, none⟩) hg).trans c0) (HH.out.below (hX ▸ hb.1)) HFW.out).mono (fun e w' he => And.intro he.1 (hb.below he.2)))
            have hld := held_bd R HFW.out R.length
            rw [List.take_length] at hld
            by_cases hq : 48 < bytesL (heldL R) + n
            · have HF : Hid (f = 4) := by show _ = _; rw [HRF.out]; rw [HRr.out]; simp only [Option.map_some, Option.getD_some, HCC.out, HKN.out]; simp [h1, hnb, hq]
              have hq' : (48 : Int) < bytesL (heldL R) + n := hq
              go_region_with (go_at_call 111; refine (HCW.out _ HF1d.out).mono ?_; rintro e w7 ⟨rfl, HX7⟩)
              all_goals (have x7 := HX7.2.2; have hX7 := HX7.2.1; obtain ⟨d7, hg7⟩ := HD.out w7 HX7; have d8 := HD8.out w7 HX7; have HY7 := hide HX7; clear HX7)
              all_goals obtain ⟨d8, hgg7⟩ := d8
              all_goals go_wp2_with (first | (go_at_call 110; refine (HFI.out _).mono ?_; rintro e w' ⟨rfl, rfl⟩) | (go_at_call 83; refine (HLD.out _ (HY7.out.alloc _)).mono ?_; rintro e w9 ⟨rfl, HX9⟩; have x9 := HX9.2.2; have hX9 := HX9.2.1; have HY9 := hide HX9; clear HX9))
              all_goals go_ret2
              all_goals exact ⟨by rw [HF.out]; rfl, HY9.out.1.alloc (Nat.le_of_lt HY9.out.2.1) _⟩
            · have HF : Hid (f = 0) := by show _ = _; rw [HRF.out]; rw [HRr.out]; simp only [Option.map_some, Option.getD_some, HCC.out, HKN.out]; simp [h1, hnb, hq]
              have hq' : bytesL (heldL R) + (n : Int) ≤ 48 := by omega
              go_region_with (go_at_call 111; refine (HCW.out _ HF1d.out).mono ?_; rintro e w7 ⟨rfl, HX7⟩)
              all_goals (have x7 := HX7.2.2; have hX7 := HX7.2.1; obtain ⟨d7, hg7⟩ := HD.out w7 HX7; have d8 := HD8.out w7 HX7; have HY7 := hide HX7; clear HX7)
              all_goals obtain ⟨d8, hgg7⟩ := d8
              all_goals go_wp2_with (first | (go_at_call 110; refine (HFI.out _).mono ?_; rintro e w' ⟨rfl, rfl⟩) | (go_at_call 83; refine (HLD.out _ (HY7.out.alloc _)).mono ?_; rintro e w9 ⟨rfl, HX9⟩; have x9 := HX9.2.2; have hX9 := HX9.2.1; have HY9 := hide HX9; clear HX9))
              all_goals go_ret2
              all_goals exact ⟨by rw [HF.out]; rfl, HY9.out.1.alloc (Nat.le_of_lt HY9.out.2.1) _⟩
      · have hbk : (R.length : Int) ≤ (k : Int) := by omega
        have hnk : R[k]? = none := List.getElem?_eq_none (by omega)
        have hle : R.length ≤ k := by omega
        by_cases h3 : 3 ≤ R.length
        · have HF : Hid (f = 4) := by show _ = _; rw [HRF.out]; simp [h1, h3, hle]
          have h3' : (3 : Int) ≤ (R.length : Int) := by omega
          go_wp2_with (go_at_call 110; refine (HFI.out _).mono ?_; rintro e w' ⟨rfl, rfl⟩)
          go_ret2
          exact ⟨by rw [HF.out]; rfl, HF1.out.1⟩
        · have h3' : (R.length : Int) < 3 := by omega
          have HLD := hide (fun wz (hb : FxW X w #[.int .u16 src, .int .u16 dst, .int .u8 proto, .int .u16 id, .int .u8 off, .bool more, .int .u16 sport, .int .u16 dport, .slice none 0 0, .int .i64 n] wz) => (load_any gS i _ R now F wz (Nat.lt_trans hg hb.2.1) ((hb.1.cell (p := ⟨gS, i, none⟩) hg).trans c0) (HH.out.below (hX ▸ hb.1)) HFW.out).mono (fun e w' he => And.intro he.1 (hb.below he.2)))
          have hld := held_bd R HFW.out R.length
          rw [List.take_length] at hld
          by_cases hq : 48 < bytesL (heldL R) + n
          · have HF : Hid (f = 4) := by show _ = _; rw [HRF.out]; simp [h1, hnk, h3, hq]
            have hq' : (48 : Int) < bytesL (heldL R) + n := hq
            go_wp2_with (go_at_call 110; refine (HFI.out _).mono ?_; rintro e w' ⟨rfl, rfl⟩)
            go_region
            go_wp2_with (first | (go_at_call 110; refine (HFI.out _).mono ?_; rintro e w' ⟨rfl, rfl⟩) | (go_at_call 83; refine (HLD.out _ ((HF1d.out).alloc _)).mono ?_; rintro e w9 ⟨rfl, HX9⟩; have x9 := HX9.2.2; have hX9 := HX9.2.1; have HY9 := hide HX9; clear HX9))
            go_ret2
            exact ⟨by rw [HF.out]; rfl, HY9.out.1.alloc (Nat.le_of_lt HY9.out.2.1) _⟩
          · have HF : Hid (f = 0) := by show _ = _; rw [HRF.out]; simp [h1, hnk, h3, hq]
            have hq' : bytesL (heldL R) + (n : Int) ≤ 48 := by omega
            go_wp2_with (go_at_call 110; refine (HFI.out _).mono ?_; rintro e w' ⟨rfl, rfl⟩)
            go_region
            go_wp2_with (first | (go_at_call 110; refine (HFI.out _).mono ?_; rintro e w' ⟨rfl, rfl⟩) | (go_at_call 83; refine (HLD.out _ ((HF1d.out).alloc _)).mono ?_; rintro e w9 ⟨rfl, HX9⟩; have x9 := HX9.2.2; have hX9 := HX9.2.1; have HY9 := hide HX9; clear HX9))
            go_ret2
            exact ⟨by rw [HF.out]; rfl, HY9.out.1.alloc (Nat.le_of_lt HY9.out.2.1) _⟩

end Go.Proofs.YtajphdppmdoalaaGreat
