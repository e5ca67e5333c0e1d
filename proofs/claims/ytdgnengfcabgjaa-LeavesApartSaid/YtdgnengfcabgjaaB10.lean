/-
  leaves.Find.
  leaves.alike.
  leaves.twice.
-/
import Derived.Test.YtdgnengfcabgjaaB04
import Derived.Test.YtdgnengfcabgjaaB08
import Derived.Test.YtdgnengfcabgjaaB09
import Derived.Deep.RegionLaw
namespace Go.Proofs.Ytdgnengfcabgjaa
open Go.RowKit

/-- The place of the first leaf of that path, counted from i on, or -1. -/
def lfind (path : List ByteArray) : List Lf → Nat → Int
  | [], _ => -1
  | x :: xs, i => if x.path = path then i else lfind path xs (i + 1)
theorem lfind_hit {path : List ByteArray} {ls : List Lf} {k : Nat} (h : k < ls.length) (he : (ls[k]).path = path) : lfind path (ls.drop k) k = k := by rw [List.drop_eq_getElem_cons h, lfind, if_pos he]
theorem lfind_miss {path : List ByteArray} {ls : List Lf} {k : Nat} (h : k < ls.length) (he : (ls[k]).path ≠ path) : lfind path (ls.drop k) k = lfind path (ls.drop (k + 1)) (k + 1) := by rw [List.drop_eq_getElem_cons h, lfind, if_neg he]
theorem lfind_end {path : List ByteArray} {ls : List Lf} {k : Nat} (h : ls.length ≤ k) : lfind path (ls.drop k) k = -1 := by rw [List.drop_eq_nil_of_le h]; rfl
theorem find1_any {p path : List ByteArray} {v0 v1 v2 v3 v4 v5 vp : Value} {Bp B : Nat} {w : World} (hB : B ≤ w.heap.size) (hp : Strs w B v0 p) (hcell : w.cell? ⟨Bp, 0, none⟩ = some vp) (hBp : Bp < w.heap.size) (hq : Strs w B vp path) (hl : p.length ≤ 10000) :
    Calls Try.prog 46 #[.agg #[v0, v1, v2, v3, v4, v5], .pointer (some ⟨Bp, 0, none⟩)] w fun e w' => e = .returned (.bool (decide (p = path))) ∧ Below w.heap.size w w' := by
  have hb : Below w.heap.size w (w.alloc (.cells #[v0, v1, v2, v3, v4, v5] 42)) := (Below.refl _ w).alloc (Nat.le_refl _) _
  have HC := Lib.hid (sequal_any p path v0 vp B _ (hp.keep fun _ h => hb.cell (Nat.lt_of_lt_of_le h hB)) (hq.keep fun _ h => hb.cell (Nat.lt_of_lt_of_le h hB)) hl)
  have hc2 := (hb.cell (p := ⟨Bp, 0, none⟩) hBp).trans hcell
  obtain ⟨c0, _⟩ := (Box6.new w v0 v1 v2 v3 v4 v5).cells
  have HB := Lib.hid hb
  clear hp hq hcell hb
  go_enter Try.func46, Try.ntmps46
  go_wp2_with (go_at_call 47; refine HC.out.mono ?_; rintro e w' ⟨rfl, n, rfl⟩)
  go_ret
  exact ⟨rfl, HB.out.trans ((below_drewN _ n).mono HB.out.size)⟩
set_option maxHeartbeats 1000000 in
theorem index_any {ls : List Lf} {path : List ByteArray} {v vp : Value} {Bp B : Nat} {w : World} (hB : B ≤ w.heap.size) (hls : LvsIn w B v ls) (hcell : w.cell? ⟨Bp, 0, none⟩ = some vp) (hBp : Bp < w.heap.size) (hq : Strs w B vp path) (hlen : ls.length ≤ 100000) (hl : ∀ x ∈ ls, x.path.length ≤ 10000) :
    Calls Try.prog 45 #[v, .func (.func 46) #[] #[.pointer (some ⟨Bp, 0, none⟩)]] w fun e w' => e = .returned (.int .i64 (lfind path ls 0)) ∧ Below w.heap.size w w' := by
  obtain ⟨A, c, rfl, hlc, hk⟩ := hls
  have HK := Lib.hid hk; have HQ := Lib.hid hq; have HC := Lib.hid hcell; have HL := Lib.hid hl
  clear hk hq hcell hl
  go_enter Try.func45, Try.ntmps45
  go_wp2_with fail
  go_loopw [8] (fun i wr => ∃ k : Nat, k ≤ ls.length ∧ i = .int .i64 k ∧ Hid (lfind path ls 0 = lfind path (ls.drop k) k) ∧ Hid (Below w.heap.size w wr)) (fun i _ => ls.length - (intOf i).toNat)
  case atStart => exact ⟨0, Nat.zero_le _, rfl, Lib.hid rfl, Lib.hid (Below.refl _ _)⟩
  case round =>
    obtain ⟨k, hk0, rfl, HR, HB⟩ := hrel
    by_cases hlt : k < ls.length
    · obtain ⟨b, off, rfl, hb, hcx⟩ := HK.out (by omega)
      obtain ⟨v0, v1, v2, v3, v4, v5, c0, c1, c2, c3, c4, c5, hsp, hsd⟩ := hcx k hlt
      have hbw : b < w.heap.size := by omega
      rw [← HB.out.cell (p := ⟨b, _, none⟩) hbw] at c0 c1 c2 c3 c4 c5
      have hs := HB.out.size
      have hF := find1_any (path := path) (v1 := v1) (v2 := v2) (v3 := v3) (v4 := v4) (v5 := v5) (Nat.le_trans hB hs) (hsp.keep fun _ h => HB.out.cell (Nat.lt_of_lt_of_le h hB)) ((HB.out.cell (p := ⟨Bp, 0, none⟩) hBp).trans HC.out) (Nat.lt_of_lt_of_le hBp hs) (HQ.out.keep fun _ h => HB.out.cell (Nat.lt_of_lt_of_le h hB)) (HL.out _ (List.getElem_mem hlt))
      have hlti : (k : Int) < (ls.length : Int) := by omega
      clear hcx hsp hsd
      by_cases he : (ls[k]).path = path
      · rw [decide_eq_true he] at hF
        have HF := Lib.hid hF
        have HE := Lib.hid (HR.out.trans (lfind_hit hlt he))
        clear hF he HR
        go_wp2_with (go_at_call 46; refine HF.out.mono ?_; rintro e w' ⟨rfl, h2⟩; have H2 := Lib.hid h2; clear h2)
        go_ret
        exact ⟨by rw [HE.out]; rfl, HB.out.trans (H2.out.mono hs)⟩
      · rw [decide_eq_false he] at hF
        have HF := Lib.hid hF
        have HE := Lib.hid (HR.out.trans (lfind_miss hlt he))
        clear hF he HR
        go_wp2_with (go_at_call 46; refine HF.out.mono ?_; rintro e w' ⟨rfl, h2⟩; have H2 := Lib.hid h2; clear h2)
        go_roundw
        case rel => exact ⟨k + 1, hlt, by first | rfl | go_num, HE, Lib.hid (HB.out.trans (H2.out.mono hs))⟩
        case measure => simp [intOf]; omega
    · have hlti : ¬ (k : Int) < (ls.length : Int) := by omega
      have HE := Lib.hid (HR.out.trans (lfind_end (by omega)))
      clear HR
      go_wp2_with fail
      go_ret
      exact ⟨by rw [HE.out]; rfl, HB.out⟩
theorem lfind_any {ls : List Lf} {path : List ByteArray} {v vp : Value} {B : Nat} {w : World} (hB : B ≤ w.heap.size) (hls : LvsIn w B v ls) (hq : Strs w B vp path) (hlen : ls.length ≤ 100000) (hl : ∀ x ∈ ls, x.path.length ≤ 10000) :
    Calls Try.prog 19 #[v, vp] w fun e w' => e = .returned (.int .i64 (lfind path ls 0)) ∧ Below w.heap.size w w' := by
  obtain ⟨A1, c1, rfl, _⟩ := id hq
  have hb : Below w.heap.size w (w.alloc (.cells #[.slice A1 path.length c1] 22)) := (Below.refl _ w).alloc (Nat.le_refl _) _
  have HI := Lib.hid (index_any (Bp := w.heap.size) (w := w.alloc (.cells #[.slice A1 path.length c1] 22)) (by simp; omega) (hls.keep fun _ h => hb.cell (Nat.lt_of_lt_of_le h hB)) (Boxed.new w 22 (.slice A1 path.length c1)).cell (by simp) (hq.keep fun _ h => hb.cell (Nat.lt_of_lt_of_le h hB)) hlen hl)
  have HB := Lib.hid hb
  clear hb hls hq
  go_enter Try.func19, Try.ntmps19
  go_wp2_with (go_at_call 45; refine HI.out.mono ?_; rintro e w' ⟨rfl, h2⟩; have H2 := Lib.hid h2; clear h2)
  go_ret
  exact ⟨rfl, HB.out.trans (H2.out.mono HB.out.size)⟩
end Go.Proofs.Ytdgnengfcabgjaa
namespace Go.Proofs.Ytdgnengfcabgjaa
open Go.RowKit

/-- Are two leaves alike? -/
def alikeB (x y : Lf) : Bool := decide (x.path = y.path) && D.same x.doc y.doc
theorem two6 (w : World) (v0 v1 v2 v3 v4 v5 u0 u1 u2 u3 u4 u5 : Value) : Below w.heap.size w ((w.alloc (.cells #[v0, v1, v2, v3, v4, v5] 42)).alloc (.cells #[u0, u1, u2, u3, u4, u5] 42)) ∧
    Box6 ((w.alloc (.cells #[v0, v1, v2, v3, v4, v5] 42)).alloc (.cells #[u0, u1, u2, u3, u4, u5] 42)) w.heap.size v0 v1 v2 v3 v4 v5 ∧ Box6 ((w.alloc (.cells #[v0, v1, v2, v3, v4, v5] 42)).alloc (.cells #[u0, u1, u2, u3, u4, u5] 42)) (w.heap.size + 1) u0 u1 u2 u3 u4 u5 := by
  refine ⟨((Below.refl _ w).alloc (Nat.le_refl _) _).alloc (by simp) _, (Below.heap_alloc _ _ _ (by simp)).trans (Box6.new w v0 v1 v2 v3 v4 v5), ?_⟩
  have := Box6.new (w.alloc (.cells #[v0, v1, v2, v3, v4, v5] 42)) u0 u1 u2 u3 u4 u5
  rwa [World.size_alloc] at this
set_option maxHeartbeats 1000000 in
theorem alike_any {x y : Lf} {v0 v1 v2 v3 v4 v5 u0 u1 u2 u3 u4 u5 : Value} {B : Nat} {w : World} (hB : B ≤ w.heap.size) (hp : Strs w B v0 x.path) (hd : DocIn w B x.doc v1 v2 v3 v4 v5) (hq : Strs w B u0 y.path) (he : DocIn w B y.doc u1 u2 u3 u4 u5) (hl : x.path.length ≤ 10000) (hf : x.doc.Fit) (hg : y.doc.Fit) :
    Calls Try.prog 51 #[.agg #[v0, v1, v2, v3, v4, v5], .agg #[u0, u1, u2, u3, u4, u5]] w fun e w' => e = .returned (.bool (alikeB x y)) ∧ Below w.heap.size w w' := by
  obtain ⟨hb, b1, b2⟩ := two6 w v0 v1 v2 v3 v4 v5 u0 u1 u2 u3 u4 u5
  have hbn := fun n => hb.trans ((below_drewN _ n).mono hb.size)
  have HC := Lib.hid (sequal_any x.path y.path v0 u0 B _ (hp.keep fun _ h => hb.cell (Nat.lt_of_lt_of_le h hB)) (hq.keep fun _ h => hb.cell (Nat.lt_of_lt_of_le h hB)) hl)
  have HS := Lib.hid (fun n => same_v (w := ((w.alloc (.cells #[v0, v1, v2, v3, v4, v5] 42)).alloc (.cells #[u0, u1, u2, u3, u4, u5] 42)).drewN n) hf hg (Nat.le_trans hB hb.size)
    (show DocV _ B x.doc (.agg #[v1, v2, v3, v4, v5]) from ⟨_, _, _, _, _, rfl, hd.keep (Nat.le_refl _) fun q h => (hbn n).cell (Nat.lt_of_lt_of_le h hB)⟩) (show DocV _ B y.doc (.agg #[u1, u2, u3, u4, u5]) from ⟨_, _, _, _, _, rfl, he.keep (Nat.le_refl _) fun q h => (hbn n).cell (Nat.lt_of_lt_of_le h hB)⟩))
  obtain ⟨c0, c1, c2, c3, c4, c5⟩ := b1.cells
  obtain ⟨d0, d1, d2, d3, d4, d5⟩ := b2.cells
  have HB := Lib.hid hb
  clear hp hd hq he hb hbn b1 b2
  by_cases hpq : x.path = y.path
  · have ha : alikeB x y = D.same x.doc y.doc := by simp [alikeB, hpq]
    rw [ha]
    rw [decide_eq_true hpq] at HC
    go_enter Try.func51, Try.ntmps51
    go_wp2_with (first
      | (go_at_call 47; refine HC.out.mono ?_; rintro e w' ⟨rfl, n, rfl⟩; have HS2 := Lib.hid (HS.out n); clear HC HS)
      | (go_at_call 27; refine HS2.out.mono ?_; rintro e w' ⟨rfl, h2⟩; have H2 := Lib.hid h2; clear h2 HS2))
    go_ret
    exact ⟨rfl, HB.out.trans (((below_drewN _ n).trans H2.out).mono HB.out.size)⟩
  · have ha : alikeB x y = false := by simp [alikeB, hpq]
    rw [ha]
    rw [decide_eq_false hpq] at HC
    go_enter Try.func51, Try.ntmps51
    go_wp2_with (go_at_call 47; refine HC.out.mono ?_; rintro e w' ⟨rfl, n, rfl⟩; clear HC HS)
    go_ret
    exact ⟨rfl, HB.out.trans ((below_drewN _ n).mono HB.out.size)⟩
end Go.Proofs.Ytdgnengfcabgjaa
namespace Go.Proofs.Ytdgnengfcabgjaa
open Go.RowKit

/-- Do two that stand side by side bear one path? -/
def twiceL : List Lf → Bool
  | x :: y :: r => decide (kcmp x.path y.path = 0) || twiceL (y :: r)
  | _ => false
theorem twiceL_next {ls : List Lf} {k : Nat} (h : k + 1 < ls.length) : twiceL (ls.drop k) = (decide (kcmp (ls[k]).path (ls[k + 1]).path = 0) || twiceL (ls.drop (k + 1))) := by
  rw [List.drop_eq_getElem_cons (by omega : k < ls.length), List.drop_eq_getElem_cons h, twiceL]
theorem twiceL_end {ls : List Lf} {k : Nat} (h : ls.length ≤ k + 1) : twiceL (ls.drop k) = false := by
  rcases Nat.lt_or_ge k ls.length with h1 | h1
  · rw [List.drop_eq_getElem_cons h1, List.drop_eq_nil_of_le (by omega)]; rfl
  · rw [List.drop_eq_nil_of_le h1]; rfl
set_option maxRecDepth 100000 in
set_option maxHeartbeats 2000000 in
theorem twice_any {ls : List Lf} {v : Value} {B : Nat} {w : World} (hB : B ≤ w.heap.size) (hx : LvsIn w B v ls) (hlen : ls.length ≤ 100000) (hl : ∀ x ∈ ls, x.path.length ≤ 10000) :
    Calls Try.prog 33 #[v] w fun e w' => e = .returned (.bool (twiceL ls)) ∧ Below w.heap.size w w' := by
  obtain ⟨A, c, rfl, _, hk⟩ := hx
  have HX := Lib.hid hk; have HL := Lib.hid hl
  clear hk hl
  go_enter Try.func33, Try.ntmps33
  go_wp2_with fail
  go_loopw [3] (fun i wr => ∃ k : Nat, k ≤ ls.length ∧ i = .int .i64 ((k : Int) + 1) ∧ Hid (twiceL ls = twiceL (ls.drop k)) ∧ Hid (Below w.heap.size w wr)) (fun i _ => ls.length + 1 - (intOf i).toNat)
  case atStart => exact ⟨0, Nat.zero_le _, rfl, Lib.hid rfl, Lib.hid (Below.refl _ _)⟩
  case round =>
    obtain ⟨k, hk0, rfl, HR, HB⟩ := hrel
    by_cases hlt : k + 1 < ls.length
    · obtain ⟨b, off, rfl, hb, hcx⟩ := HX.out (by omega)
      obtain ⟨v0, v1, v2, v3, v4, v5, c0, c1, c2, c3, c4, c5, hsp, _⟩ := hcx k (by omega)
      obtain ⟨u0, u1, u2, u3, u4, u5, d0, d1, d2, d3, d4, d5, hsq, _⟩ := hcx (k + 1) hlt
      have hbw : b < w.heap.size := by omega
      rw [← HB.out.cell (p := ⟨b, _, none⟩) hbw] at c0 c1 c2 c3 c4 c5 d0 d1 d2 d3 d4 d5
      have hs := HB.out.size
      have hlti : (k : Int) + 1 < (ls.length : Int) := by omega
      have hltk : (k : Int) < (ls.length : Int) := by omega
      have hwr : IntKind.i64.wrap (k : Int) = (k : Int) := by rw [IntKind.wrap_i64]; omega
      have h0k : (0 : Int) ≤ (k : Int) + 1 := by omega
      have hbd : Below w.heap.size w wr.drew := HB.out.trans ((below_drewN wr 1).mono hs)
      have HC := Lib.hid (byPath_any (ls[k]).path (ls[k + 1]).path v0 v1 v2 v3 v4 v5 u0 u1 u2 u3 u4 u5 B wr.drew (Nat.le_trans hB hs) (hsp.keep fun _ h => hbd.cell (Nat.lt_of_lt_of_le h hB)) (hsq.keep fun _ h => hbd.cell (Nat.lt_of_lt_of_le h hB)) (HL.out _ (List.getElem_mem _)) (HL.out _ (List.getElem_mem _)))
      have HBW := Lib.hid (hbd.trans (((two6 wr.drew v0 v1 v2 v3 v4 v5 u0 u1 u2 u3 u4 u5).1).mono hs))
      have HN := Lib.hid (HR.out.trans (twiceL_next hlt))
      clear hcx hsp hsq hbd HR
      by_cases hz : kcmp (ls[k]).path (ls[k + 1]).path = 0
      · have HN2 := Lib.hid (HN.out.trans (by rw [decide_eq_true hz]; rfl) : twiceL ls = true)
        rw [hz] at HC
        clear HN hz
        go_wp2_with fail
        go_region_law (go_wp2_with fail; go_at_call 41; refine HC.out.mono ?_; rintro e w' ⟨rfl, rfl⟩)
        all_goals
          go_wp2_with fail
          go_ret
          exact ⟨by rw [HN2.out]; rfl, HBW.out⟩
      · have HN2 := Lib.hid (HN.out.trans (by rw [decide_eq_false hz]; rfl) : twiceL ls = twiceL (ls.drop (k + 1)))
        generalize kcmp (ls[k]).path (ls[k + 1]).path = z at *
        clear HN
        go_wp2_with fail
        go_region_law (go_wp2_with fail; go_at_call 41; refine HC.out.mono ?_; rintro e w' ⟨rfl, rfl⟩)
        all_goals
          go_wp2_with fail
          go_roundw
          case rel => exact ⟨k + 1, by omega, by first | rfl | go_num, HN2, Lib.hid HBW.out⟩
          case measure => simp [intOf]; omega
    · have hlti : ¬ (k : Int) + 1 < (ls.length : Int) := by omega
      have HN := Lib.hid (HR.out.trans (twiceL_end (by omega)))
      clear HR
      go_wp2_with fail
      go_ret
      exact ⟨by rw [HN.out]; rfl, HB.out⟩
end Go.Proofs.Ytdgnengfcabgjaa
