import Derived.Test.YtajphdppmdoalaaGreatZZ4toCA
import Derived.Test.YtajphdppmdoalaaGreatZMDtoND
import Derived.Deep.AppendLies
import Derived.Deep.RegionLaw
import Derived.Deep.RegionHeld3
import Derived.Test.YtajphdppmdoalaaGreatZMLtoZ1
import Derived.Test.YtajphdppmdoalaaGreatZHtoLB
import Derived.Test.YtajphdppmdoalaaGreatZDAtoCC
namespace Go.Proofs.YtajphdppmdoalaaGreat
open Go.RowKit
set_option linter.unusedVariables false

set_option maxRecDepth 100000 in
set_option maxHeartbeats 1600000 in
theorem begins_no (wb : Nat) (xb yb : Nat) (ee aa bb src dst proto id off : Int) (more : Bool) (sport dport : Int) (dso : Option Addr) (dsn dsc : Nat) (ao : Option Addr) (n cap : Nat) (w : World) (er : Int) (her : er ≠ 0) (Q0 Q1 Q2 : World → Prop)
    (HX : Hid (∀ wz, Q0 wz → Calls Tryz.prog 14 #[.int .i64 aa, .int .i64 bb] wz fun e w' => e = .returned (.tuple #[.pointer none, .int .i64 er]) ∧ Q1 w'))
    (HY : Hid (∀ wz, Q1 wz → Calls Tryz.prog 15 #[.int .i64 aa, .int .i64 bb] wz fun e w' => e = .returned (.tuple #[.pointer none, .int .i64 er]) ∧ Q2 w'))
    (HB0 : Hid (∀ wz, Q0 wz → ∀ j, wz.cell? ⟨w.heap.size, j, none⟩ = (#[.int .i64 5, .int .i64 ee, .int .i64 aa, .int .i64 bb, .int .u16 src, .int .u16 dst, .int .u8 proto, .int .u16 id, .int .u8 off, .bool more, .int .u16 sport, .int .u16 dport, .slice dso dsn dsc, .slice ao n cap] : Array Value)[j]?)) (HB1 : Hid (∀ wz, Q1 wz → ∀ j, wz.cell? ⟨w.heap.size, j, none⟩ = (#[.int .i64 5, .int .i64 ee, .int .i64 aa, .int .i64 bb, .int .u16 src, .int .u16 dst, .int .u8 proto, .int .u16 id, .int .u8 off, .bool more, .int .u16 sport, .int .u16 dport, .slice dso dsn dsc, .slice ao n cap] : Array Value)[j]?))
    (H0 : Hid (Q0 (w.alloc (.cells #[.int .i64 5, .int .i64 ee, .int .i64 aa, .int .i64 bb, .int .u16 src, .int .u16 dst, .int .u8 proto, .int .u16 id, .int .u8 off, .bool more, .int .u16 sport, .int .u16 dport, .slice dso dsn dsc, .slice ao n cap] 42)))) :
    Calls Tryz.prog 11 #[.pointer (some ⟨wb, 0, none⟩), .agg #[.int .i64 5, .int .i64 ee, .int .i64 aa, .int .i64 bb, .int .u16 src, .int .u16 dst, .int .u8 proto, .int .u16 id, .int .u8 off, .bool more, .int .u16 sport, .int .u16 dport, .slice dso dsn dsc, .slice ao n cap]] w fun e w' => e = .returned (.bool true) ∧ Q2 w' := by
  go_enter Tryz.func11, Tryz.ntmps11
  go_wp2_with fail
  generalize (w.alloc (.cells #[.int .i64 5, .int .i64 ee, .int .i64 aa, .int .i64 bb, .int .u16 src, .int .u16 dst, .int .u8 proto, .int .u16 id, .int .u8 off, .bool more, .int .u16 sport, .int .u16 dport, .slice dso dsn dsc, .slice ao n cap] 42)) = w2 at *
  have c1 := HB0.out w2 H0.out
  go_wp2_with fail
  refine (HX.out w2 H0.out).mono ?_
  rintro e w3 ⟨rfl, q1⟩
  clear c1
  have c1 := HB1.out w3 q1
  go_wp2_with fail
  refine (HY.out w3 q1).mono ?_
  rintro e w4 ⟨rfl, q2⟩
  clear c1 q1
  have hne : (er == 0) = false := by simp [her]
  have hnd : decide (er = 0) = false := by simp [her]
  go_wp2
  all_goals first | (go_ret; exact ⟨rfl, q2⟩) | (exfalso; simp_all)

end Go.Proofs.YtajphdppmdoalaaGreat

namespace Go.Proofs.YtajphdppmdoalaaGreat
open Go.RowKit
set_option linter.unusedVariables false

/-- What the caller writes into the k-th list of events, of flights. -/
def evP (k : Int) : List Value := [.int .i64 (-k), .int .u8 99, .int .u8 (k % 256)]
def flP (k : Int) : List Value := [.int .i64 (-k), .int .i64 k, .int .i64 k]
theorem evP_len (k : Int) : (evP k).length = 3 := rfl
theorem flP_len (k : Int) : (flP k).length = 3 := rfl

set_option maxRecDepth 100000 in
set_option maxHeartbeats 1600000 in
theorem event_any (k : Int) (w : World) (hk0 : 0 ≤ k) (hk : k ≤ 4000000000000) :
    Calls Tryz.prog 24 #[.int .i64 k] w fun e w' => e = .returned (.agg #[.int .i64 (-k), .int .u8 99, .int .u8 (k % 256)]) ∧ Below w.heap.size w w' := by
  go_enter Tryz.func24, Tryz.ntmps24
  go_wp2
  refine bodyPost_ret (v := .agg #[.int .i64 (-k), .int .u8 99, .int .u8 (k % 256)]) ?_ rfl ⟨rfl, ?_⟩
  all_goals go_light
  · simp [results, Tryz.results24, go_sem]
  · repeat' first | with_reducible exact Below.refl _ _ | with_reducible refine Below.setCell ?_ ?_ _ | with_reducible refine Below.alloc ?_ ?_ _
    all_goals (simp; try omega)
set_option maxRecDepth 100000 in
set_option maxHeartbeats 1600000 in
theorem flight_any (k : Int) (w : World) (hk0 : 0 ≤ k) (hk : k ≤ 4000000000000) :
    Calls Tryz.prog 25 #[.int .i64 k] w fun e w' => e = .returned (.agg #[.int .i64 (-k), .int .i64 k, .int .i64 k]) ∧ Below w.heap.size w w' := by
  go_enter Tryz.func25, Tryz.ntmps25
  go_wp2
  refine bodyPost_ret (v := .agg #[.int .i64 (-k), .int .i64 k, .int .i64 k]) ?_ rfl ⟨rfl, ?_⟩
  all_goals go_light
  · simp [results, Tryz.results25, go_sem]
  · repeat' first | with_reducible exact Below.refl _ _ | with_reducible refine Below.setCell ?_ ?_ _ | with_reducible refine Below.alloc ?_ ?_ _
    all_goals (simp; try omega)

end Go.Proofs.YtajphdppmdoalaaGreat

namespace Go.Proofs.YtajphdppmdoalaaGreat
open Go.RowKit
set_option linter.unusedVariables false

/-- A column of the book: lists (a row of slices), and the number of each. f k m: what a list of m elements with the number k reads as. -/
structure Col (w : World) (G : Nat → Prop) (e se : TypeId) (s : Nat) (f : Int → Nat → List Value) (vr vk : Value) (US : List Value) (KS : List Int) (c : Nat) : Prop where
  row : w.ownsRow 0 se 1 vr US.length US
  ks : w.ownsRow 0 3 1 vk US.length (KS.map (Value.int .i64))
  page : ∀ (i : Nat) (u : Value) (k : Int), US[i]? = some u → KS[i]? = some k → 0 ≤ k ∧ k ≤ c ∧ ∃ m, w.ownsRow 0 e s u m (f k m) ∧ ∀ g, u.ownBlock = some g → G g
  gr : ∀ g, vr.ownBlock = some g → G g
  gk : ∀ g, vk.ownBlock = some g → G g
theorem own_same {w w' : World} {base k s : Nat} {e : TypeId} {u : Value} {ys : List Value} (h : w.ownsRow base e s u k ys) (hh : ∀ g, u.ownBlock = some g → w'.heap[g]? = w.heap[g]?) : w'.ownsRow base e s u k ys := by
  refine ⟨h.1, ?_⟩
  rcases h.2 with h2 | ⟨g, cap, cur, hv, hbs, hg, r⟩
  · exact .inl h2
  · exact .inr ⟨g, cap, cur, hv, hbs, (hh g (by rw [hv]; rfl)).trans hg, r⟩
/-- A column stands as long as its blocks (of another tag than t) do. -/
theorem Col.move {w w' : World} {G : Nat → Prop} {e se t : TypeId} {s : Nat} {f : Int → Nat → List Value} {vr vk : Value} {US : List Value} {KS : List Int} {c c' wb : Nat} {cs : Array Value} (h : Col w G e se s f vr vk US KS c) (hb : w.heap[wb]? = some (.cells cs t (0, 0))) (h1 : e ≠ t) (h2 : se ≠ t) (h3 : (3 : TypeId) ≠ t) (hh : ∀ k, G k → k ≠ wb → w'.heap[k]? = w.heap[k]?) (hc : c ≤ c') : Col w' G e se s f vr vk US KS c' := by
  have key : ∀ {u : Value} {e' : TypeId} {s' k : Nat} {ys : List Value}, w.ownsRow 0 e' s' u k ys → e' ≠ t → (∀ g, u.ownBlock = some g → G g) → w'.ownsRow 0 e' s' u k ys := by
    intro u e' s' k ys hu hne hg
    exact own_same hu (fun g hgu => hh g (hg g hgu) (fun hw => own_apart_blk hu hb hne (by rw [← hw]; exact hgu)))
  refine ⟨key h.row h2 h.gr, key h.ks h3 h.gk, fun i u k hu hk => ?_, h.gr, h.gk⟩
  obtain ⟨a1, a2, m, a3, a4⟩ := h.page i u k hu hk
  exact ⟨a1, by omega, m, key a3 h1 a4, a4⟩
/-- Four lists more in a column. -/
theorem Col.add {w w' : World} {G G' : Nat → Prop} {e se : TypeId} {s : Nat} {f : Int → Nat → List Value} {vr vk vr' vk' : Value} {US : List Value} {KS : List Int} {c : Nat} (h : Col w G e se s f vr vk US KS c) (hKS : KS.length = US.length) (hG : ∀ k, G k → G' k)
    (hstay : ∀ (u : Value) (m : Nat) (ys : List Value), w.ownsRow 0 e s u m ys → w'.ownsRow 0 e s u m ys)
    (v0 v1 v2 v3 : Value) (n0 n1 n2 n3 : Nat) (k : Int) (hk0 : 0 ≤ k) (hkc : k ≤ c) (p0 : w.ownsRow 0 e s v0 n0 (f k n0)) (p1 : w.ownsRow 0 e s v1 n1 (f k n1)) (p2 : w.ownsRow 0 e s v2 n2 (f k n2)) (p3 : w.ownsRow 0 e s v3 n3 (f k n3))
    (q : ∀ u, u = v0 ∨ u = v1 ∨ u = v2 ∨ u = v3 → ∀ g, u.ownBlock = some g → G' g)
    (a1 : w'.ownsRow 0 se 1 vr' (US.length + 4) (US ++ [v0, v1, v2, v3])) (a2 : w'.ownsRow 0 3 1 vk' (US.length + 4) (KS.map (Value.int .i64) ++ [.int .i64 k, .int .i64 k, .int .i64 k, .int .i64 k])) (g1 : ∀ g, vr'.ownBlock = some g → G' g) (g2 : ∀ g, vk'.ownBlock = some g → G' g) :
    Col w' G' e se s f vr' vk' (US ++ [v0, v1, v2, v3]) (KS ++ [k, k, k, k]) c := by
  refine ⟨by rw [List.length_append]; exact a1, by rw [List.length_append, List.map_append]; exact a2, fun i u kk hu hk => ?_, g1, g2⟩
  by_cases hi : i < US.length
  · rw [List.getElem?_append_left hi] at hu
    rw [List.getElem?_append_left (by omega)] at hk
    obtain ⟨b1, b2, m, b3, b4⟩ := h.page i u kk hu hk
    exact ⟨b1, b2, m, hstay _ _ _ b3, fun g hg => hG g (b4 g hg)⟩
  · rw [List.getElem?_append_right (by omega)] at hu
    rw [List.getElem?_append_right (by omega), hKS] at hk
    have hd : i - US.length < 4 := by
      by_cases hd : i - US.length < 4
      · exact hd
      · rw [List.getElem?_eq_none (by simp; omega)] at hu; simp at hu
    rcases (show i - US.length = 0 ∨ i - US.length = 1 ∨ i - US.length = 2 ∨ i - US.length = 3 by omega) with h0 | h0 | h0 | h0 <;> rw [h0] at hu hk <;> simp at hu hk <;> subst hu hk
    · exact ⟨hk0, hkc, n0, hstay _ _ _ p0, q _ (.inl rfl)⟩
    · exact ⟨hk0, hkc, n1, hstay _ _ _ p1, q _ (.inr (.inl rfl))⟩
    · exact ⟨hk0, hkc, n2, hstay _ _ _ p2, q _ (.inr (.inr (.inl rfl)))⟩
    · exact ⟨hk0, hkc, n3, hstay _ _ _ p3, q _ (.inr (.inr (.inr rfl)))⟩

def pgB (k : Int) (m : Nat) : List Value := (sg k m).map (Value.int .u8)
def pgE (k : Int) (m : Nat) : List Value := (List.replicate m k).flatMap evP
def pgF (k : Int) (m : Nat) : List Value := (List.replicate m k).flatMap flP
/-- The book of all lists, behind c of them; its blocks are G. -/
structure Book (w : World) (wb : Nat) (vl : Value) (c : Nat) (G : Nat → Prop) (vbs ves vfs vkb vke vkf : Value) (BS ES FS : List Value) (KB KE KF : List Int) : Prop where
  blk : w.heap[wb]? = some (.cells #[vl, vbs, ves, vfs, vkb, vke, vkf, .int .i64 c] 34 (0, 0))
  cb : Col w G 5 38 1 pgB vbs vkb BS KB c
  ce : Col w G 60 57 3 pgE ves vke ES KE c
  cf : Col w G 64 62 3 pgF vfs vkf FS KF c
  dbe : ∀ g, vkb.ownBlock = some g → vke.ownBlock ≠ some g
  dbf : ∀ g, vkb.ownBlock = some g → vkf.ownBlock ≠ some g
  dfe : ∀ g, vke.ownBlock = some g → vkf.ownBlock ≠ some g
  gw : G wb
  flt : ∀ k, G k → k < w.heap.size
  len : KB.length = BS.length ∧ KE.length = ES.length ∧ KF.length = FS.length
  cnt : BS.length + ES.length + FS.length ≤ 4 * c
theorem Book.move {w w' : World} {wb : Nat} {vl : Value} {c : Nat} {G : Nat → Prop} {vbs ves vfs vkb vke vkf : Value} {BS ES FS : List Value} {KB KE KF : List Int} (h : Book w wb vl c G vbs ves vfs vkb vke vkf BS ES FS KB KE KF) (hs : w.heap.size ≤ w'.heap.size) (hh : ∀ k, G k → k ≠ wb → w'.heap[k]? = w.heap[k]?) (vl' : Value) (c' : Nat) (hc : c ≤ c') (hb : w'.heap[wb]? = some (.cells #[vl', vbs, ves, vfs, vkb, vke, vkf, .int .i64 c'] 34 (0, 0))) : Book w' wb vl' c' G vbs ves vfs vkb vke vkf BS ES FS KB KE KF :=
  ⟨hb, h.cb.move h.blk (by decide) (by decide) (by decide) hh hc, h.ce.move h.blk (by decide) (by decide) (by decide) hh hc, h.cf.move h.blk (by decide) (by decide) (by decide) hh hc, h.dbe, h.dbf, h.dfe, h.gw, fun k hk => Nat.lt_of_lt_of_le (h.flt k hk) hs, h.len, by have := h.cnt; omega⟩

end Go.Proofs.YtajphdppmdoalaaGreat

namespace Go.Proofs.YtajphdppmdoalaaGreat
open Go.RowKit
set_option linter.unusedVariables false

/-- A pair of the law's world: where its sides lie, what they read as, their blocks. -/
structure Pr where
  xb : Nat
  yb : Nat
  S : Cl
  F1 : Nat → Prop
  F2 : Nat → Prop
def Pr.cells (p : Pr) : List Value := [.pointer (some ⟨p.xb, 0, none⟩), .pointer (some ⟨p.yb, 0, none⟩)]
def Pr.has (p : Pr) (k : Nat) : Prop := p.F1 k ∨ p.F2 k
structure PrOk (w : World) (t : Nat) (p : Pr) : Prop where
  tw : Tw w p.xb p.yb p.S p.S p.F1 p.F2
  good : Good p.S
  next : p.S.next ≤ t
  now : p.S.now ≤ t
def Bok (w : World) (wb : Nat) (vl : Value) (c : Nat) (G : Nat → Prop) : Prop := ∃ vbs ves vfs vkb vke vkf BS ES FS KB KE KF, Book w wb vl c G vbs ves vfs vkb vke vkf BS ES FS KB KE KF
theorem Bok.flt {w : World} {wb : Nat} {vl : Value} {c : Nat} {G : Nat → Prop} (h : Bok w wb vl c G) : G wb ∧ ∀ k, G k → k < w.heap.size := by
  obtain ⟨_, _, _, _, _, _, _, _, _, _, _, _, h⟩ := h
  exact ⟨h.gw, h.flt⟩
theorem Bok.only {w w' : World} {wb : Nat} {vl : Value} {c : Nat} {G F : Nat → Prop} (h : Bok w wb vl c G) (ho : Only F w w') (hF : ∀ k, G k → ¬ F k) : Bok w' wb vl c G := by
  obtain ⟨vbs, ves, vfs, vkb, vke, vkf, BS, ES, FS, KB, KE, KF, h⟩ := h
  exact ⟨vbs, ves, vfs, vkb, vke, vkf, BS, ES, FS, KB, KE, KF, h.move ho.size (fun k hk _ => ho.block k (h.flt k hk) (hF k hk)) vl c (Nat.le_refl _) ((ho.block wb (h.flt wb h.gw) (hF wb h.gw)).trans h.blk)⟩
theorem Bok.cell {w : World} {wb : Nat} {vl : Value} {c : Nat} {G : Nat → Prop} (h : Bok w wb vl c G) : w.cell? ⟨wb, 0, none⟩ = some vl := by
  obtain ⟨_, _, _, _, _, _, _, _, _, _, _, _, h⟩ := h
  exact arr_cell h.blk 0
/-- The law's world behind t steps: the book, the pairs. What lay in w0 is as it was. -/
structure Wd (w0 w : World) (wb c t : Nat) (vl : Value) (G : Nat → Prop) (L : List Pr) : Prop where
  book : Bok w wb vl c G
  row : w.ownsRow 0 52 2 vl L.length (L.flatMap Pr.cells)
  rg : ∀ g, vl.ownBlock = some g → ¬ G g ∧ w0.heap.size ≤ g
  gB : ∀ k, G k → w0.heap.size ≤ k
  ok : ∀ (i : Nat) p, L[i]? = some p → PrOk w t p
  ap : ∀ (i : Nat) p, L[i]? = some p → ∀ k, p.has k → ¬ G k ∧ vl.ownBlock ≠ some k ∧ w0.heap.size ≤ k
  dis : ∀ (i j : Nat) p q, i ≠ j → L[i]? = some p → L[j]? = some q → ∀ k, p.has k → ¬ q.has k
  len : L.length ≤ t + 1
  bel : Below w0.heap.size w0 w
theorem own_ltS {w : World} {base k s : Nat} {e : TypeId} {u : Value} {ys : List Value} (h : w.ownsRow base e s u k ys) : ∀ g, u.ownBlock = some g → g < w.heap.size := by
  intro g hg
  rcases h.2 with ⟨h2, _⟩ | ⟨g', cap, cur, hv, _, hb, _⟩
  · rw [h2] at hg
    simp [Value.ownBlock] at hg
  · rw [hv] at hg
    simp only [Value.ownBlock, Option.some.injEq] at hg
    rw [← hg]
    exact lt_of_block hb
theorem Wd.mono {w0 w : World} {wb c t t' : Nat} {vl : Value} {G : Nat → Prop} {L : List Pr} (h : Wd w0 w wb c t vl G L) (ht : t ≤ t') : Wd w0 w wb c t' vl G L :=
  ⟨h.book, h.row, h.rg, h.gB, fun i p hp => ⟨(h.ok i p hp).tw, (h.ok i p hp).good, Nat.le_trans (h.ok i p hp).next ht, by have := (h.ok i p hp).now; omega⟩, h.ap, h.dis, by have := h.len; omega, h.bel⟩
/-- Other blocks are written. -/
theorem Wd.only {w0 w w' : World} {wb c t : Nat} {vl : Value} {G F : Nat → Prop} {L : List Pr} (h : Wd w0 w wb c t vl G L) (ho : Only F w w') (h1 : ∀ k, G k → ¬ F k) (h2 : ∀ g, vl.ownBlock = some g → ¬ F g) (h3 : ∀ (i : Nat) p, L[i]? = some p → ∀ k, p.has k → ¬ F k) (h4 : ∀ k, F k → w0.heap.size ≤ k) : Wd w0 w' wb c t vl G L :=
  ⟨h.book.only ho h1, own_only h.row ho h2, h.rg, h.gB, fun i p hp => ⟨(h.ok i p hp).tw.only ho (h3 i p hp), (h.ok i p hp).good, (h.ok i p hp).next, (h.ok i p hp).now⟩, h.ap, h.dis, h.len, h.bel.trans (ho.to_below h.bel.size h4)⟩
theorem Wd.below {w0 w w' : World} {wb c t : Nat} {vl : Value} {G : Nat → Prop} {L : List Pr} (h : Wd w0 w wb c t vl G L) (hb : Below w.heap.size w w') : Wd w0 w' wb c t vl G L :=
  h.only (F := fun _ => False) (Only.of_below hb) (fun _ _ f => f) (fun _ _ f => f) (fun _ _ _ _ _ f => f) (fun _ f => f.elim)
theorem set_cells : ∀ (L : List Pr) (i : Nat) (p q : Pr), L[i]? = some p → q.cells = p.cells → (L.set i q).flatMap Pr.cells = L.flatMap Pr.cells
  | a :: L, 0, p, q, h, hq => by
    simp only [List.getElem?_cons_zero, Option.some.injEq] at h
    subst h
    simp [hq]
  | a :: L, i + 1, p, q, h, hq => by
    simp only [List.getElem?_cons_succ] at h
    simp [set_cells L i p q h hq]
/-- A pair has made a step. -/
theorem Wd.pair {w0 w w' : World} {wb c t : Nat} {vl : Value} {G : Nat → Prop} {L : List Pr} (h : Wd w0 w wb c t vl G L) (i : Nat) (p : Pr) (hi : L[i]? = some p) (S' : Cl) (F1' F2' : Nat → Prop) (ht : Tw w' p.xb p.yb S' S' F1' F2') (hn : Nxt p.S S') (hs : Stp w w' p.has (fun k => F1' k ∨ F2' k)) :
    Wd w0 w' wb c (t + 1) vl G (L.set i ⟨p.xb, p.yb, S', F1', F2'⟩) := by
  have hil : i < L.length := by
    by_cases hlt : i < L.length
    · exact hlt
    · rw [List.getElem?_eq_none (by omega)] at hi
      simp at hi
  have hapi := h.ap i p hi
  have hsz := h.bel.size
  have hnew : ∀ k, F1' k ∨ F2' k → ¬ G k ∧ vl.ownBlock ≠ some k ∧ w0.heap.size ≤ k := by
    intro k hk
    rcases hs.own k hk with h1 | h1
    · exact hapi k h1
    · exact ⟨fun hG => by have := h.book.flt.2 k hG; omega, fun hv => by have := own_ltS h.row k hv; omega, by omega⟩
  have hothers : ∀ (j : Nat) q, j ≠ i → L[j]? = some q → ∀ k, F1' k ∨ F2' k → ¬ q.has k := by
    intro j q hj hq k hk
    rcases hs.own k hk with h1 | h1
    · exact h.dis i j p q (Ne.symm hj) hi hq k h1
    · intro hqk
      have := (h.ok j q hq).tw.flt k hqk
      omega
  have hget : ∀ (j : Nat) q, (L.set i ⟨p.xb, p.yb, S', F1', F2'⟩)[j]? = some q → (j = i ∧ q = ⟨p.xb, p.yb, S', F1', F2'⟩) ∨ (j ≠ i ∧ L[j]? = some q) := by
    intro j q hq
    by_cases hj : j = i
    · subst hj
      rw [List.getElem?_set_self hil] at hq
      simp only [Option.some.injEq] at hq
      exact .inl ⟨rfl, hq.symm⟩
    · rw [List.getElem?_set_ne (Ne.symm hj)] at hq
      exact .inr ⟨hj, hq⟩
  refine ⟨h.book.only hs.only (fun k hk hk' => (hapi k hk').1 hk), ?_, h.rg, h.gB, ?_, ?_, ?_, by rw [List.length_set]; have := h.len; omega, h.bel.trans (hs.only.to_below hsz (fun k hk => (hapi k hk).2.2))⟩
  · rw [List.length_set, set_cells L i p ⟨p.xb, p.yb, S', F1', F2'⟩ hi rfl]
    exact own_only h.row hs.only (fun g hg hk => (hapi g hk).2.1 hg)
  · intro j q hq
    rcases hget j q hq with ⟨rfl, rfl⟩ | ⟨hj, hq⟩
    · have h1 := (h.ok j p hi).next
      have h2 := (h.ok j p hi).now
      exact ⟨ht, hn.1, by have := hn.2.1; show S'.next ≤ _; omega, by have := hn.2.2; show S'.now ≤ _; omega⟩
    · have h0 := h.ok j q hq
      exact ⟨h0.tw.only hs.only (fun k hk hk' => h.dis i j p q (Ne.symm hj) hi hq k hk' hk), h0.good, by have := h0.next; omega, by have := h0.now; omega⟩
  · intro j q hq
    rcases hget j q hq with ⟨rfl, rfl⟩ | ⟨hj, hq⟩
    · exact hnew
    · exact h.ap j q hq
  · intro j j' q q' hjj hq hq'
    rcases hget j q hq with ⟨rfl, rfl⟩ | ⟨hj, hq1⟩
    · rcases hget j' q' hq' with ⟨rfl, rfl⟩ | ⟨hj', hq1'⟩
      · exact absurd rfl hjj
      · exact hothers j' q' hj' hq1'
    · rcases hget j' q' hq' with ⟨rfl, rfl⟩ | ⟨hj', hq1'⟩
      · exact fun k hk hk' => hothers j q hj hq1 k hk' hk
      · exact h.dis j j' q q' hjj hq1 hq1'
/-- A pair more. -/
theorem Wd.add {w0 w w1 w' : World} {wb c t : Nat} {vl : Value} {G : Nat → Prop} {L : List Pr} (h : Wd w0 w wb c t vl G L) (hb : Below w.heap.size w w1) (p : Pr) (hp : PrOk w1 (t + 1) p) (hf : ∀ k, p.has k → w.heap.size ≤ k) (v' : Value)
    (ho : Only (fun k => k = wb ∨ vl.ownBlock = some k) w1 w') (hblk : ∀ cs t, w1.heap[wb]? = some (.cells cs t (0, 0)) → w'.heap[wb]? = some (.cells (cs.setIfInBounds 0 v') t (0, 0)))
    (hrow : w'.ownsRow 0 52 2 v' (L.length + 1) (L.flatMap Pr.cells ++ p.cells)) (hv' : ∀ g, v'.ownBlock = some g → vl.ownBlock = some g ∨ w1.heap.size ≤ g) : Wd w0 w' wb c (t + 1) v' G (L ++ [p]) := by
  have h1 := h.below hb
  have hsz := h.bel.size
  have hsz1 := hb.size
  have hF : ∀ (i : Nat) q, L[i]? = some q → ∀ k, q.has k → ¬ (k = wb ∨ vl.ownBlock = some k) := by
    intro i q hq k hk hkk
    rcases hkk with rfl | hkk
    · exact (h.ap i q hq k hk).1 h.book.flt.1
    · exact (h.ap i q hq k hk).2.1 hkk
  have hpF : ∀ k, p.has k → ¬ (k = wb ∨ vl.ownBlock = some k) := by
    intro k hk hkk
    have hk1 := hf k hk
    rcases hkk with rfl | hkk
    · have := h.book.flt.2 k h.book.flt.1
      omega
    · have := own_ltS h.row k hkk
      omega
  have hget : ∀ (j : Nat) q, (L ++ [p])[j]? = some q → L[j]? = some q ∨ (j = L.length ∧ q = p) := by
    intro j q hq
    by_cases hj : j < L.length
    · rw [List.getElem?_append_left hj] at hq
      exact .inl hq
    · rw [List.getElem?_append_right (by omega)] at hq
      have hd : j - L.length = 0 := by
        cases hjl : j - L.length with
        | zero => rfl
        | succ m =>
          rw [hjl] at hq
          simp at hq
      rw [hd] at hq
      simp only [List.getElem?_cons_zero, Option.some.injEq] at hq
      exact .inr ⟨by omega, hq.symm⟩
  refine ⟨?_, by rw [List.length_append, List.flatMap_append]; simpa using hrow, ?_, h.gB, ?_, ?_, ?_, by rw [List.length_append]; have := h.len; simp; omega, h1.bel.trans (ho.to_below h1.bel.size ?_)⟩
  · obtain ⟨vbs, ves, vfs, vkb, vke, vkf, BS, ES, FS, KB, KE, KF, hB⟩ := h1.book
    refine ⟨vbs, ves, vfs, vkb, vke, vkf, BS, ES, FS, KB, KE, KF, hB.move ho.size (fun k hk hkw => ho.block k (hB.flt k hk) ?_) v' c (Nat.le_refl _) ?_⟩
    · rintro (rfl | hv)
      · exact hkw rfl
      · exact (h.rg k hv).1 hk
    · have := hblk _ _ hB.blk
      simpa using this
  · intro g hg
    rcases hv' g hg with h2 | h2
    · exact h.rg g h2
    · exact ⟨fun hG => by have := h1.book.flt.2 g hG; omega, by omega⟩
  · intro j q hq
    rcases hget j q hq with hq | ⟨rfl, rfl⟩
    · have h0 := h1.ok j q hq
      exact ⟨h0.tw.only ho (hF j q hq), h0.good, by have := h0.next; omega, by have := h0.now; omega⟩
    · exact ⟨hp.tw.only ho hpF, hp.good, hp.next, hp.now⟩
  · intro j q hq k hk
    rcases hget j q hq with hq | ⟨rfl, rfl⟩
    · refine ⟨(h.ap j q hq k hk).1, fun hv => ?_, (h.ap j q hq k hk).2.2⟩
      rcases hv' k hv with h2 | h2
      · exact (h.ap j q hq k hk).2.1 h2
      · have := (h1.ok j q hq).tw.flt k hk
        omega
    · have hk1 := hf k hk
      have hk2 := hp.tw.flt k hk
      refine ⟨fun hG => by have := h.book.flt.2 k hG; omega, fun hv => ?_, by omega⟩
      rcases hv' k hv with h2 | h2
      · exact hpF k hk (.inr h2)
      · omega
  · intro j j' q q' hjj hq hq' k hk hk'
    rcases hget j q hq with hq1 | ⟨e1, e2⟩
    · rcases hget j' q' hq' with hq1' | ⟨e1, e2⟩
      · exact h.dis j j' q q' hjj hq1 hq1' k hk hk'
      · rw [e2] at hk'
        have := (h.ok j q hq1).tw.flt k hk
        have := hf k hk'
        omega
    · rcases hget j' q' hq' with hq1' | ⟨e1', e2'⟩
      · rw [e2] at hk
        have := (h.ok j' q' hq1').tw.flt k hk'
        have := hf k hk
        omega
      · exact absurd (e1.trans e1'.symm) hjj
  · rintro k (rfl | hv)
    · exact h.gB k h.book.flt.1
    · exact (h.rg k hv).2
/-- The book has taken a list. -/
theorem Wd.list {w0 w w' : World} {wb c c' t : Nat} {vl lv : Value} {G G' : Nat → Prop} {L : List Pr} (h : Wd w0 w wb c t vl G L) (hlv : ∀ g, lv.ownBlock = some g → vl.ownBlock ≠ some g ∧ w0.heap.size ≤ g ∧ g < w.heap.size ∧ ∀ (i : Nat) p, L[i]? = some p → ¬ p.has g)
    (hB : Bok w' wb vl c' G') (hG' : ∀ k, G' k → G k ∨ lv.ownBlock = some k ∨ w.heap.size ≤ k) (ho : Only (fun k => G k ∨ lv.ownBlock = some k) w w') : Wd w0 w' wb c' t vl G' L := by
  have hsz := h.bel.size
  refine ⟨hB, own_only h.row ho ?_, ?_, ?_, ?_, ?_, h.dis, h.len, h.bel.trans (ho.to_below hsz ?_)⟩
  · rintro g hg (hk | hk)
    · exact (h.rg g hg).1 hk
    · exact (hlv g hk).1 hg
  · intro g hg
    refine ⟨fun hk => ?_, (h.rg g hg).2⟩
    rcases hG' g hk with h1 | h1 | h1
    · exact (h.rg g hg).1 h1
    · exact (hlv g h1).1 hg
    · have := own_ltS h.row g hg
      omega
  · intro k hk
    rcases hG' k hk with h1 | h1 | h1
    · exact h.gB k h1
    · exact (hlv k h1).2.1
    · omega
  · intro i p hp
    have h0 := h.ok i p hp
    refine ⟨h0.tw.only ho ?_, h0.good, h0.next, h0.now⟩
    rintro k hk (h1 | h1)
    · exact (h.ap i p hp k hk).1 h1
    · exact (hlv k h1).2.2.2 i p hp hk
  · intro i p hp k hk
    refine ⟨fun hk' => ?_, (h.ap i p hp k hk).2⟩
    rcases hG' k hk' with h1 | h1 | h1
    · exact (h.ap i p hp k hk).1 h1
    · exact (hlv k h1).2.2.2 i p hp hk
    · have := (h.ok i p hp).tw.flt k hk
      omega
  · rintro k (h1 | h1)
    · exact h.gB k h1
    · exact (hlv k h1).2.1
/-- What a step makes of the law's world. -/
def WNxt (w0 : World) (wb c t : Nat) (L : List Pr) (w' : World) : Prop := ∃ c' vl' G' L', c' ≤ c + 1 ∧ L.length ≤ L'.length ∧ Wd w0 w' wb c' (t + 1) vl' G' L'
theorem Wd.step {w0 w w' : World} {wb c t : Nat} {vl : Value} {G : Nat → Prop} {L : List Pr} (h : Wd w0 w wb c t vl G L) (i : Nat) (p : Pr) (hi : L[i]? = some p) (S' : Cl) (hA : Aft w p.xb p.yb p.F1 p.F2 S' S' w') (hn : Nxt p.S S') : WNxt w0 wb c t L w' := by
  obtain ⟨F1', F2', ht, hs⟩ := hA
  exact ⟨c, vl, G, _, by omega, by rw [List.length_set]; exact Nat.le_refl _, h.pair i p hi S' F1' F2' ht hn hs⟩

end Go.Proofs.YtajphdppmdoalaaGreat
