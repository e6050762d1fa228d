import Derived.Test.YtajphdppmdoalaaZKtoM
import Derived.ArgAppend
import Derived.Test.YtajphdppmdoalaaZNKtoC
import Derived.Test.YtajphdppmdoalaaZJ1toLP
import Derived.Test.YtajphdppmdoalaaZNNtoNN
namespace Go.Proofs.Ytajphdppmdoalaa
open Go.RowKit

theorem own_build (w : World) (e : TypeId) (xs : List Value) (hm : xs.length ≤ maxLen) : (w.alloc (.cells xs.toArray e)).ownsRow w.heap.size e 1 (.slice (some ⟨w.heap.size, 0, none⟩) xs.length xs.length) xs.length xs := by
  refine ⟨by simp, .inr ⟨w.heap.size, xs.length, xs.toArray, rfl, Nat.le_refl _, heap_alloc_new _ _, Nat.le_refl _, hm, by simp, by simp⟩⟩

/-- What the caller writes at place i of the k-th list. -/
def sgn (k : Int) (i : Nat) : Int := if i % 2 = 0 then k % 256 else k / 256 % 256
theorem sgn_bd (k : Int) (i : Nat) : 0 ≤ sgn k i ∧ sgn k i ≤ 255 := by unfold sgn; split <;> omega
def sg (k : Int) : Nat → List Int
  | 0 => []
  | m + 1 => sg k m ++ [sgn k m]
theorem sg_length (k : Int) (m : Nat) : (sg k m).length = m := by
  induction m with
  | zero => rfl
  | succ m ih => simp [sg, ih]
theorem sg_get (k : Int) (m j : Nat) (h : j < m) : (sg k m)[j]? = some (sgn k j) := by
  induction m with
  | zero => omega
  | succ m ih =>
    rw [sg]
    by_cases hj : j < m
    · rw [List.getElem?_append_left (by rw [sg_length]; exact hj)]; exact ih hj
    · obtain rfl : j = m := by omega
      rw [List.getElem?_append_right (by rw [sg_length]; omega), sg_length]; simp
theorem sg_getD (k : Int) (m j : Nat) (h : j < m) : (sg k m).getD j 0 = sgn k j := by
  rw [List.getD_eq_getElem?_getD, sg_get k m j h]; rfl

theorem grownBy_any {w w' : World} (h : w.grownBy w' none) (row : Option Nat) : w.grownBy w' row :=
  ⟨h.os, h.tape, h.output, h.size, fun k hk _ => h.block k hk (by simp)⟩

/-- Old rows behind new ones. -/
theorem owns_kept {w w' : World} {base : Nat} {e : TypeId} {u : Value} {k : Nat} {ys : List Value} (h : w.ownsRow base e 1 u k ys) {row : Option Nat} (hg : w.grownBy w' row) (hne : u.ownBlock ≠ row) : w'.ownsRow base e 1 u k ys :=
  h.kept hg (.inr hne)

/-- 'append' onto a row of the call's own: what lay in a row before lies there still. -/
theorem wpList_append_keep {P : Program} (w : World) {ops : Array Oper} {rest : List Oper} {o : Oper} {a : Act} {Q : Exit → Act → World → Prop} (hgd : o.guard = none) (s x : Operand) (t : TypeId)
    (ho : o.op = .call { callee := .builtin .append, args := #[s, x], argTypes := #[t, t] })
    (base : Nat) (e : TypeId) (i : TypeInfo) (z : Value) (bytes : Nat) (ht : P.underlying t = some (.slice e)) (hi : P.info? e = some i) (hz : i.zero = some z)
    (hsize : i.size = 1) (hby : i.bytes = bytes) (hzs : z.cells.size = 1)
    (v : Value) (n : Nat) (xs : List Value) (hs : a.eval s = v) (hown : w.ownsRow base e 1 v n xs)
    (ad : Addr) (m c : Nat) (hm : 0 < m) (news : List Value) (hx : a.eval x = .slice (some ad) m c) (hl : news.length = m * 1) (hnews : ∀ j u, news[j]? = some u → w.cell? (ad.add j) = some u) (h1 : ∀ u ∈ news, u.oneCell' = true)
    (h63 : n + m ≤ maxLen) (hbytes : (n + m) * bytes ≤ 140737488355328) (hbase : base ≤ w.heap.size)
    (h : ∀ g cap w', w'.ownsRow base e 1 (.slice (some ⟨g, 0, none⟩) (n + m) cap) (n + m) (xs ++ news) → w.grownBy w' v.ownBlock →
      (∀ e' u k ys, w.ownsRow base e' 1 u k ys → (u.ownBlock = v.ownBlock → k ≤ n) → w'.ownsRow base e' 1 u k ys) → wpList P ops Q rest (a.put o.dst (.slice (some ⟨g, 0, none⟩) (n + m) cap)) w') : wpList P ops Q (o :: rest) a w := by
  have grow : ∀ (ao : Option Addr) (cap : Nat), v = .slice ao n cap → (ao = none → n = 0 ∧ cap = 0) → (∀ b, ao = some b → ∀ j u, xs[j]? = some u → w.cell? (b.add j) = some u) → cap < n + m → wpList P ops Q (o :: rest) a w := by
    intro ao cap hv hnone holds hfull
    refine wpList_append_grows w hgd s x t ho e i z 1 bytes ht hi hz hsize hby hzs (by decide) ao n cap xs (hs.trans hv) hnone hown.1 holds ad m c news hx hl hnews h1 hfull h63 hbytes ?_
    intro v' w' hown' hg'
    rcases own_shape hown' with rfl | ⟨g, cv, rfl⟩
    · exfalso
      rcases hown'.2 with ⟨_, h0⟩ | ⟨_, _, _, h0, _⟩
      · omega
      · simp at h0
    · refine h g cv w' (ownsRow_base hown' hbase) (grownBy_any hg' _) ?_
      intro e' u k ys hu _
      refine ⟨hu.1, ?_⟩
      rcases hu.2 with h2 | ⟨gu, cu, curu, hv2, hb2, hh2, r⟩
      · exact .inl h2
      · exact .inr ⟨gu, cu, curu, hv2, hb2, (hg'.block gu (lt_of_block hh2) (by simp)).trans hh2, r⟩
  rcases hown.2 with ⟨hv, hn0⟩ | ⟨g, cap, cur, hv, hb, hh, hle, hmx, hsz, htk⟩
  · exact grow none 0 (by rw [hv, hn0]) (fun _ => ⟨hn0, rfl⟩) (by simp) (by omega)
  · by_cases hfit : n + m ≤ cap
    · have hown2 := hown
      rw [hv] at hown2
      refine wpList_append_fits w hgd s x t ho base e i 1 ht hi hsize g n cap xs (hs.trans hv) hown2 ad m c news hx hl hnews h1 hfit ?_
      intro w' hown' hg'
      refine h g cap w' hown' (by rw [hv]; exact hg') ?_
      intro e' u k ys hu hk
      refine ⟨hu.1, ?_⟩
      rcases hu.2 with h2 | ⟨gu, cu, curu, hv2, hb2, hh2, hleu, hmu, hsu, htu⟩
      · exact .inl h2
      · by_cases hgg : gu = g
        · subst hgg
          have hkn : k ≤ n := hk (by rw [hv2, hv]; rfl)
          rw [hh] at hh2
          simp only [Option.some.injEq, Obj.cells.injEq] at hh2
          obtain ⟨rfl, rfl, _⟩ := hh2
          rcases hown'.2 with ⟨h0, _⟩ | ⟨g', cap', cur', hv', hb', hh', hle', hmx', hsz', htk'⟩
          · simp at h0
          · simp only [Value.slice.injEq, Option.some.injEq, Addr.mk.injEq] at hv'
            obtain ⟨⟨rfl, _, _⟩, _, rfl⟩ := hv'
            refine .inr ⟨gu, cu, cur', hv2, hb2, hh', hleu, hmu, ?_, ?_⟩
            · omega
            · rw [← htu, ← show ((cur'.toList.take ((n + m) * 1)).take (k * 1)) = cur'.toList.take (k * 1) from by rw [List.take_take]; congr 1; omega, htk', ← htk, List.take_append_of_le_length (by rw [List.length_take]; simp; omega), List.take_take]
              congr 1
              omega
        · exact .inr ⟨gu, cu, curu, hv2, hb2, (hg'.block gu (lt_of_block hh2) (by simpa using hgg)).trans hh2, hleu, hmu, hsu, htu⟩
    · refine grow (some ⟨g, 0, none⟩) cap hv (by simp) ?_ (by omega)
      intro b hb' j u hj
      simp only [Option.some.injEq] at hb'
      subst hb'
      exact hown.cells (g := g) (by rw [hv]; rfl) j u hj

end Go.Proofs.Ytajphdppmdoalaa

namespace Go.Proofs.Ytajphdppmdoalaa
open Go.RowKit
set_option linter.unusedVariables false

set_option maxRecDepth 100000 in
set_option maxHeartbeats 800000 in
theorem ends_any (src dst proto id off : Int) (more : Bool) (sport dport : Int) (ao : Option Addr) (n cap : Nat) (w : World) (hsrc0 : 0 ≤ src) (hsrc : src ≤ 65535) (hdst0 : 0 ≤ dst) (hdst : dst ≤ 65535) (hproto0 : 0 ≤ proto) (hproto : proto ≤ 255) (hid0 : 0 ≤ id) (hid : id ≤ 65535) (hoff0 : 0 ≤ off) (hoff : off ≤ 255) :
    Calls Try.prog 50 #[.agg #[.int .u16 src, .int .u16 dst, .int .u8 proto, .int .u16 id, .int .u8 off, .bool more, .int .u16 sport, .int .u16 dport, .slice ao n cap]] w fun e w' => ∃ g, e = .returned (.slice (some ⟨g, 0, none⟩) 5 5) ∧ w'.ownsRow w.heap.size 5 1 (.slice (some ⟨g, 0, none⟩) 5 5) 5 ([src / 256, src % 256, dst / 256, dst % 256, proto].map (Value.int .u8)) ∧ Below w.heap.size w w' := by
  go_enter Try.func50, Try.ntmps50
  go_wp2
  go_ret
  refine ⟨w.heap.size + 1, rfl, ?_, ?_⟩
  · have h := own_build (w.alloc (.cells #[.int .u16 src, .int .u16 dst, .int .u8 proto, .int .u16 id, .int .u8 off, .bool more, .int .u16 sport, .int .u16 dport, .slice ao n cap] 28)) 5 ([src / 256, src % 256, dst / 256, dst % 256, proto].map (Value.int .u8)) (by show 5 ≤ maxLen; decide)
    rw [World.size_alloc] at h
    exact ownsRow_base h (by omega)
  · exact ((Below.refl _ _).alloc (Nat.le_refl _) _).alloc (by simp) _

set_option maxRecDepth 100000 in
set_option maxHeartbeats 1600000 in
theorem flow_any (src dst proto id off : Int) (more : Bool) (sport dport : Int) (ao : Option Addr) (n cap : Nat) (w : World) (hsrc0 : 0 ≤ src) (hsrc : src ≤ 65535) (hdst0 : 0 ≤ dst) (hdst : dst ≤ 65535) (hproto0 : 0 ≤ proto) (hproto : proto ≤ 255) (hid0 : 0 ≤ id) (hid : id ≤ 65535) (hoff0 : 0 ≤ off) (hoff : off ≤ 255) (hsport0 : 0 ≤ sport) (hsport : sport ≤ 65535) (hdport0 : 0 ≤ dport) (hdport : dport ≤ 65535) :
    Calls Try.prog 33 #[.agg #[.int .u16 src, .int .u16 dst, .int .u8 proto, .int .u16 id, .int .u8 off, .bool more, .int .u16 sport, .int .u16 dport, .slice ao n cap]] w fun e w' => e = .returned (.int .u32 (flH src dst proto sport dport)) ∧ Below w.heap.size w w' := by
  obtain ⟨i0, hi, hz0, hz1, hz2⟩ := info_parts info_u8
  have HN := hide (fun w => ends_any src dst proto id off more sport dport ao n cap w hsrc0 hsrc hdst0 hdst hproto0 hproto hid0 hid hoff0 hoff)
  unfold flH
  go_enter Try.func33, Try.ntmps33
  go_wp2_with fail
  refine (HN.out _).mono ?_
  rintro e w1 ⟨g, rfl, ho, hb⟩
  have HT := hide ho
  have HB : Hid (Below (w.heap.size + 1) (w.alloc (.cells #[.int .u16 src, .int .u16 dst, .int .u8 proto, .int .u16 id, .int .u8 off, .bool more, .int .u16 sport, .int .u16 dport, .slice ao n cap] 28)) w1) := hb.mono (by simp)
  have hz : w.heap.size + 1 ≤ w1.heap.size := by have := hb.size; simpa using this
  have cc := box_cell HB.out
  clear ho hb HN
  rw [World.size_alloc] at HT
  go_wp2_with (at_builtin; refine wpList_append_own _ rfl (.tmp 6) (.tmp 21) 26 rfl (w.heap.size + 1) 5 i0 (.int .u8 0) 1 1 Try.underlying26 hi hz0 hz1 hz2 rfl (by decide) _ _ _ rfl (HT.out.alloc _) ⟨w1.heap.size, 0, none⟩ 4 4 [.int .u8 (sport / 256), .int .u8 (sport % 256), .int .u8 (dport / 256), .int .u8 (dport % 256)] rfl rfl (cells_new _ _ _) (by simp [Value.oneCell']) (by unfold maxLen; omega) (by omega) (by simp; try omega) ?_)
  intro v2 w2 hown hgrow hiff
  have HT2 : Hid (w2.ownsRow (w.heap.size + 1) 5 1 v2 9 ([src / 256, src % 256, dst / 256, dst % 256, proto, sport / 256, sport % 256, dport / 256, dport % 256].map (Value.int .u8))) := by show World.ownsRow _ _ _ _ _ _ _; simpa using hown
  have HB2 : Hid (Below (w.heap.size + 1) (w.alloc (.cells #[.int .u16 src, .int .u16 dst, .int .u8 proto, .int .u16 id, .int .u8 off, .bool more, .int .u16 sport, .int .u16 dport, .slice ao n cap] 28)) w2) := (HB.out.alloc hz _).grown hgrow (by simp; try omega) (fun q hq => (HT.out.lt q hq).1)
  clear hown hgrow hiff cc HB hz HT
  obtain ⟨g2, q2, rfl⟩ := (own_shape HT2.out).resolve_left (by rintro rfl; rcases HT2.out.2 with ⟨_, h⟩ | ⟨_, _, _, h, _⟩; omega; simp at h)
  have HH := hide (hash_any (some ⟨g2, 0, none⟩) 9 q2 [src / 256, src % 256, dst / 256, dst % 256, proto, sport / 256, sport % 256, dport / 256, dport % 256] w2 rfl (owns_has HT2.out).1 (by omega) (by intro z hz; simp at hz; omega))
  have HBe := hide (below_old HB2.out)
  clear HT2 HB2
  generalize hE : hsh [src / 256, src % 256, dst / 256, dst % 256, proto, sport / 256, sport % 256, dport / 256, dport % 256] = hh
  rw [hE] at HH
  have HE := hide hE
  clear hE
  go_wp2_with fail
  refine HH.out.mono ?_
  rintro e w9 ⟨rfl, m9, rfl⟩
  clear HH
  go_wp2
  go_ret
  exact ⟨ret_int HE.out.symm, below_drew HBe.out _⟩

set_option maxRecDepth 100000 in
set_option maxHeartbeats 1600000 in
theorem datagram_any (src dst proto id off : Int) (more : Bool) (sport dport : Int) (ao : Option Addr) (n cap : Nat) (w : World) (hsrc0 : 0 ≤ src) (hsrc : src ≤ 65535) (hdst0 : 0 ≤ dst) (hdst : dst ≤ 65535) (hproto0 : 0 ≤ proto) (hproto : proto ≤ 255) (hid0 : 0 ≤ id) (hid : id ≤ 65535) (hoff0 : 0 ≤ off) (hoff : off ≤ 255) (hsport0 : 0 ≤ sport) (hsport : sport ≤ 65535) (hdport0 : 0 ≤ dport) (hdport : dport ≤ 65535) :
    Calls Try.prog 42 #[.agg #[.int .u16 src, .int .u16 dst, .int .u8 proto, .int .u16 id, .int .u8 off, .bool more, .int .u16 sport, .int .u16 dport, .slice ao n cap]] w fun e w' => e = .returned (.int .u32 (dgH src dst proto id)) ∧ Below w.heap.size w w' := by
  obtain ⟨i0, hi, hz0, hz1, hz2⟩ := info_parts info_u8
  have HN := hide (fun w => ends_any src dst proto id off more sport dport ao n cap w hsrc0 hsrc hdst0 hdst hproto0 hproto hid0 hid hoff0 hoff)
  unfold dgH
  go_enter Try.func42, Try.ntmps42
  go_wp2_with fail
  refine (HN.out _).mono ?_
  rintro e w1 ⟨g, rfl, ho, hb⟩
  have HT := hide ho
  have HB : Hid (Below (w.heap.size + 1) (w.alloc (.cells #[.int .u16 src, .int .u16 dst, .int .u8 proto, .int .u16 id, .int .u8 off, .bool more, .int .u16 sport, .int .u16 dport, .slice ao n cap] 28)) w1) := hb.mono (by simp)
  have hz : w.heap.size + 1 ≤ w1.heap.size := by have := hb.size; simpa using this
  have cc := box_cell HB.out
  clear ho hb HN
  rw [World.size_alloc] at HT
  go_wp2_with (at_builtin; refine wpList_append_own _ rfl (.tmp 6) (.tmp 14) 26 rfl (w.heap.size + 1) 5 i0 (.int .u8 0) 1 1 Try.underlying26 hi hz0 hz1 hz2 rfl (by decide) _ _ _ rfl (HT.out.alloc _) ⟨w1.heap.size, 0, none⟩ 2 2 [.int .u8 (id / 256), .int .u8 (id % 256)] rfl rfl (cells_new _ _ _) (by simp [Value.oneCell']) (by unfold maxLen; omega) (by omega) (by simp; try omega) ?_)
  intro v2 w2 hown hgrow hiff
  have HT2 : Hid (w2.ownsRow (w.heap.size + 1) 5 1 v2 7 ([src / 256, src % 256, dst / 256, dst % 256, proto, id / 256, id % 256].map (Value.int .u8))) := by show World.ownsRow _ _ _ _ _ _ _; simpa using hown
  have HB2 : Hid (Below (w.heap.size + 1) (w.alloc (.cells #[.int .u16 src, .int .u16 dst, .int .u8 proto, .int .u16 id, .int .u8 off, .bool more, .int .u16 sport, .int .u16 dport, .slice ao n cap] 28)) w2) := (HB.out.alloc hz _).grown hgrow (by simp; try omega) (fun q hq => (HT.out.lt q hq).1)
  clear hown hgrow hiff cc HB hz HT
  obtain ⟨g2, q2, rfl⟩ := (own_shape HT2.out).resolve_left (by rintro rfl; rcases HT2.out.2 with ⟨_, h⟩ | ⟨_, _, _, h, _⟩; omega; simp at h)
  have HH := hide (hash_any (some ⟨g2, 0, none⟩) 7 q2 [src / 256, src % 256, dst / 256, dst % 256, proto, id / 256, id % 256] w2 rfl (owns_has HT2.out).1 (by omega) (by intro z hz; simp at hz; omega))
  have HBe := hide (below_old HB2.out)
  clear HT2 HB2
  generalize hE : hsh [src / 256, src % 256, dst / 256, dst % 256, proto, id / 256, id % 256] = hh
  rw [hE] at HH
  have HE := hide hE
  clear hE
  go_wp2_with fail
  refine HH.out.mono ?_
  rintro e w9 ⟨rfl, m9, rfl⟩
  clear HH
  go_wp2
  go_ret
  exact ⟨ret_int HE.out.symm, below_drew HBe.out _⟩

end Go.Proofs.Ytajphdppmdoalaa

namespace Go.Proofs.Ytajphdppmdoalaa
open Go.RowKit
set_option linter.unusedVariables false

/-- One on its way, as the program keeps it. -/
def Snt.pcells (s : Snt) : List Value := [.int .i64 s.seq, .int .i64 s.frm, .int .i64 s.to, .int .u16 s.p.src, .int .u16 s.p.dst, .int .u8 s.p.proto, .int .u16 s.p.id, .int .u8 s.p.off, .bool s.p.more, .int .u16 s.p.sport, .int .u16 s.p.dport, .slice none 0 0, .int .i64 s.p.dlen]
theorem Snt.plen (s : Snt) : s.pcells.length = 13 := rfl
/-- The program's cluster at block xb: of S its life, next, slots, evs, sent; its replicas' entries are RR (at times T), in the blocks Fs; all its blocks are F. -/
structure PrC (w : World) (xb : Nat) (S : Cl) (F : Nat → Prop) (gS : Nat) (cs : Array Value) (vT vV vN : Value) (RR : Nat → List PE) (Fs : Nat → Nat → Prop) (T : Nat → Int) : Prop where
  blk : w.heap[xb]? = some (.cells #[.slice (some ⟨gS, 0, none⟩) cs.size cs.size, .int .i64 S.life, vT, .int .i64 S.next, vV, vN] 80 (0, 0))
  stB : w.heap[gS]? = some (.cells cs 88 (0, 0))
  st : ∀ o, o < cs.size → ∃ vE, cs[o]? = some vE ∧ StIs w vE (RR o) (T o) (Fs o)
  rT : w.ownsRow 0 5 1 vT S.slots.length (S.slots.map (Value.int .u8))
  rV : w.ownsRow 0 56 3 vV S.evs.length (S.evs.flatMap Ev.cells)
  rN : w.ownsRow 0 95 13 vN S.sent.length (S.sent.flatMap Snt.pcells)
  dis : ∀ o o', o ≠ o' → ∀ k, Fs o k → ¬ Fs o' k
  sub : ∀ o k, Fs o k → F k ∧ k ≠ gS ∧ k ≠ xb ∧ vT.ownBlock ≠ some k ∧ vV.ownBlock ≠ some k ∧ vN.ownBlock ≠ some k
  fx : F xb
  fg : F gS
  fT : ∀ g, vT.ownBlock = some g → F g
  fV : ∀ g, vV.ownBlock = some g → F g
  fN : ∀ g, vN.ownBlock = some g → F g
  flt : ∀ k, F k → k < w.heap.size
/-- The program's cluster reads as the document's S; its blocks are F. -/
def PrIs (w : World) (xb : Nat) (S : Cl) (F : Nat → Prop) : Prop := ∃ gS cs vT vV vN RR Fs, PrC w xb S F gS cs vT vV vN RR Fs (fun _ => S.now) ∧ S.reps = (cs.size : Int) ∧ ∀ o, o < cs.size → (RR o).map PE.e = entsM S o
theorem PrC.only {w w' : World} {xb : Nat} {S : Cl} {F G : Nat → Prop} {gS : Nat} {cs : Array Value} {vT vV vN : Value} {RR : Nat → List PE} {Fs : Nat → Nat → Prop} {T : Nat → Int} (h : PrC w xb S F gS cs vT vV vN RR Fs T) (ho : Only G w w') (hG : ∀ k, F k → ¬ G k) : PrC w' xb S F gS cs vT vV vN RR Fs T :=
  ⟨(ho.block xb (h.flt xb h.fx) (hG xb h.fx)).trans h.blk, (ho.block gS (h.flt gS h.fg) (hG gS h.fg)).trans h.stB, fun o ho' => by
    obtain ⟨vE, h1, h2⟩ := h.st o ho'
    exact ⟨vE, h1, h2.only ho (fun k hk => hG k (h.sub o k hk).1)⟩, own_only h.rT ho (fun g hg => hG g (h.fT g hg)), own_only h.rV ho (fun g hg => hG g (h.fV g hg)), own_only h.rN ho (fun g hg => hG g (h.fN g hg)), h.dis, h.sub, h.fx, h.fg, h.fT, h.fV, h.fN, fun k hk => Nat.lt_of_lt_of_le (h.flt k hk) ho.size⟩
theorem PrC.below {w w' : World} {xb : Nat} {S : Cl} {F : Nat → Prop} {gS : Nat} {cs : Array Value} {vT vV vN : Value} {RR : Nat → List PE} {Fs : Nat → Nat → Prop} {T : Nat → Int} (h : PrC w xb S F gS cs vT vV vN RR Fs T) (hb : Below w.heap.size w w') : PrC w' xb S F gS cs vT vV vN RR Fs T :=
  h.only (G := fun _ => False) (Only.of_below hb) (fun _ _ f => f)
theorem PrIs.only {w w' : World} {xb : Nat} {S : Cl} {F G : Nat → Prop} (h : PrIs w xb S F) (ho : Only G w w') (hG : ∀ k, F k → ¬ G k) : PrIs w' xb S F := by
  obtain ⟨gS, cs, vT, vV, vN, RR, Fs, h1, h2⟩ := h
  exact ⟨gS, cs, vT, vV, vN, RR, Fs, h1.only ho hG, h2⟩
theorem PrIs.below {w w' : World} {xb : Nat} {S : Cl} {F : Nat → Prop} (h : PrIs w xb S F) (hb : Below w.heap.size w w') : PrIs w' xb S F :=
  h.only (G := fun _ => False) (Only.of_below hb) (fun _ _ f => f)

/-- The block of the cluster, its events, its table or those on their way change. -/
theorem PrC.upd {w w' : World} {xb : Nat} {S : Cl} {F G : Nat → Prop} {gS : Nat} {cs : Array Value} {vT vV vN : Value} {RR : Nat → List PE} {Fs : Nat → Nat → Prop} {T : Nat → Int} (h : PrC w xb S F gS cs vT vV vN RR Fs T) (ho : Only G w w') (hG : ∀ k, G k → k = xb ∨ vT.ownBlock = some k ∨ vV.ownBlock = some k ∨ vN.ownBlock = some k) (S' : Cl) (vT' vV' vN' : Value)
    (hblk : w'.heap[xb]? = some (.cells #[.slice (some ⟨gS, 0, none⟩) cs.size cs.size, .int .i64 S'.life, vT', .int .i64 S'.next, vV', vN'] 80 (0, 0)))
    (rT : w'.ownsRow 0 5 1 vT' S'.slots.length (S'.slots.map (Value.int .u8))) (rV : w'.ownsRow 0 56 3 vV' S'.evs.length (S'.evs.flatMap Ev.cells)) (rN : w'.ownsRow 0 95 13 vN' S'.sent.length (S'.sent.flatMap Snt.pcells))
    (lT : ∀ g, vT'.ownBlock = some g → vT.ownBlock = some g ∨ w.heap.size ≤ g) (lV : ∀ g, vV'.ownBlock = some g → vV.ownBlock = some g ∨ w.heap.size ≤ g) (lN : ∀ g, vN'.ownBlock = some g → vN.ownBlock = some g ∨ w.heap.size ≤ g) :
    PrC w' xb S' (fun k => F k ∨ vT'.ownBlock = some k ∨ vV'.ownBlock = some k ∨ vN'.ownBlock = some k) gS cs vT' vV' vN' RR Fs T ∧ Stp w w' F (fun k => F k ∨ vT'.ownBlock = some k ∨ vV'.ownBlock = some k ∨ vN'.ownBlock = some k) := by
  have hgx : gS ≠ xb := by
    intro hh
    have h1 := h.stB
    rw [hh, h.blk] at h1
    simp only [Option.some.injEq, Obj.cells.injEq] at h1
    exact absurd h1.2.1 (by decide)
  have hgG : ¬ G gS := fun hh => by
    rcases hG gS hh with hh | hh | hh | hh
    · exact hgx hh
    · exact own_apart_blk h.rT h.stB (by decide) hh
    · exact own_apart_blk h.rV h.stB (by decide) hh
    · exact own_apart_blk h.rN h.stB (by decide) hh
  have hsz := ho.size
  refine ⟨⟨hblk, (ho.block gS (h.flt gS h.fg) hgG).trans h.stB, ?_, rT, rV, rN, h.dis, ?_, .inl h.fx, .inl h.fg, fun g hg => .inr (.inl hg), fun g hg => .inr (.inr (.inl hg)), fun g hg => .inr (.inr (.inr hg)), ?_⟩, ⟨ho.mono ?_, ?_⟩⟩
  · intro o ho'
    obtain ⟨vE, h1, h2⟩ := h.st o ho'
    refine ⟨vE, h1, h2.only ho (fun k hk hh => ?_)⟩
    obtain ⟨_, _, s3, s4, s5, s6⟩ := h.sub o k hk
    rcases hG k hh with hh | hh | hh | hh
    · exact s3 hh
    · exact s4 hh
    · exact s5 hh
    · exact s6 hh
  · intro o k hk
    obtain ⟨s1, s2, s3, s4, s5, s6⟩ := h.sub o k hk
    have hlt := h.flt k s1
    exact ⟨.inl s1, s2, s3, fun hh => (lT k hh).elim s4 (fun hh => by omega), fun hh => (lV k hh).elim s5 (fun hh => by omega), fun hh => (lN k hh).elim s6 (fun hh => by omega)⟩
  · intro k hk
    rcases hk with hk | hk | hk | hk
    · have := h.flt k hk; omega
    · exact (rT.lt k hk).2
    · exact (rV.lt k hk).2
    · exact (rN.lt k hk).2
  · intro k _ hk
    rcases hG k hk with rfl | hk | hk | hk
    · exact h.fx
    · exact h.fT k hk
    · exact h.fV k hk
    · exact h.fN k hk
  · intro k hk
    rcases hk with hk | hk | hk | hk
    · exact .inl hk
    · exact (lT k hk).imp (h.fT k) id
    · exact (lV k hk).imp (h.fV k) id
    · exact (lN k hk).imp (h.fN k) id
/-- One replica changes. -/
theorem PrC.store {w w' : World} {xb : Nat} {S : Cl} {F : Nat → Prop} {gS : Nat} {cs : Array Value} {vT vV vN : Value} {RR : Nat → List PE} {Fs : Nat → Nat → Prop} {T : Nat → Int} (h : PrC w xb S F gS cs vT vV vN RR Fs T) (o : Nat) (v2 : Value) (R' : List PE) (t' : Int) (ho : Only (fun q => q = gS ∨ Fs o q) w w')
    (hcell : w'.heap[gS]? = some (.cells (cs.setIfInBounds o v2) 88 (0, 0))) (his : StIs w' v2 R' t' (Grew (Fs o) w w')) :
    PrC w' xb S (Grew F w w') gS (cs.setIfInBounds o v2) vT vV vN (fun j => if j = o then R' else RR j) (fun j => if j = o then Grew (Fs o) w w' else Fs j) (fun j => if j = o then t' else T j) ∧ Stp w w' F (Grew F w w') := by
  have hgx : gS ≠ xb := by
    intro hh
    have h1 := h.stB
    rw [hh, h.blk] at h1
    simp only [Option.some.injEq, Obj.cells.injEq] at h1
    exact absurd h1.2.1 (by decide)
  have hsz := ho.size
  have hN : ∀ k, (k = gS ∨ Fs o k) → k ≠ xb ∧ vT.ownBlock ≠ some k ∧ vV.ownBlock ≠ some k ∧ vN.ownBlock ≠ some k := by
    intro k hk
    rcases hk with rfl | hk
    · exact ⟨hgx, own_apart_blk h.rT h.stB (by decide), own_apart_blk h.rV h.stB (by decide), own_apart_blk h.rN h.stB (by decide)⟩
    · obtain ⟨_, _, s3, s4, s5, s6⟩ := h.sub o k hk
      exact ⟨s3, s4, s5, s6⟩
  have hss : (cs.setIfInBounds o v2).size = cs.size := Array.size_setIfInBounds
  refine ⟨⟨?_, hcell, ?_, own_only h.rT ho (fun g hg hh => (hN g hh).2.1 hg), own_only h.rV ho (fun g hg hh => (hN g hh).2.2.1 hg), own_only h.rN ho (fun g hg hh => (hN g hh).2.2.2 hg), ?_, ?_, .inl h.fx, .inl h.fg, fun g hg => .inl (h.fT g hg), fun g hg => .inl (h.fV g hg), fun g hg => .inl (h.fN g hg), ?_⟩, ⟨ho.mono ?_, fun k hk => hk.imp id (fun hk => hk.1)⟩⟩
  · rw [hss]
    exact (ho.block xb (h.flt xb h.fx) (fun hh => (hN xb hh).1 rfl)).trans h.blk
  · intro j hj
    rw [hss] at hj
    by_cases hjo : j = o
    · subst hjo
      exact ⟨v2, by simp [hj], by simp only [if_true]; exact his⟩
    · obtain ⟨vE, h1, h2⟩ := h.st j hj
      refine ⟨vE, by rw [Array.getElem?_setIfInBounds_ne (fun hh => hjo hh.symm)]; exact h1, ?_⟩
      simp only [if_neg hjo]
      refine h2.only ho (fun k hk hh => ?_)
      rcases hh with hh | hh
      · exact (h.sub j k hk).2.1 hh
      · exact h.dis j o hjo k hk hh
  · intro a b hab k ha hb
    by_cases h1 : a = o
    · subst h1
      simp only [if_true, if_neg (fun hh : b = a => hab hh.symm)] at ha hb
      rcases ha with ha | ha
      · exact h.dis a b hab k ha hb
      · have := h.flt k (h.sub b k hb).1
        omega
    · simp only [if_neg h1] at ha
      by_cases h2 : b = o
      · subst h2
        simp only [if_true] at hb
        rcases hb with hb | hb
        · exact h.dis a b hab k ha hb
        · have := h.flt k (h.sub a k ha).1
          omega
      · simp only [if_neg h2] at hb
        exact h.dis a b hab k ha hb
  · intro a k ha
    by_cases h1 : a = o
    · subst h1
      simp only [if_true] at ha
      rcases ha with ha | ha
      · obtain ⟨s1, s2⟩ := h.sub a k ha
        exact ⟨.inl s1, s2⟩
      · refine ⟨.inr ha, ?_, ?_, ?_, ?_, ?_⟩
        · intro hh; have := h.flt gS h.fg; omega
        · intro hh; have := h.flt xb h.fx; omega
        · intro hh; have := h.flt k (h.fT k hh); omega
        · intro hh; have := h.flt k (h.fV k hh); omega
        · intro hh; have := h.flt k (h.fN k hh); omega
    · simp only [if_neg h1] at ha
      obtain ⟨s1, s2⟩ := h.sub a k ha
      exact ⟨.inl s1, s2⟩
  · intro k hk
    rcases hk with hk | hk
    · have := h.flt k hk; omega
    · exact hk.2
  · intro k _ hk
    rcases hk with rfl | hk
    · exact h.fg
    · exact (h.sub o k hk).1

end Go.Proofs.Ytajphdppmdoalaa
