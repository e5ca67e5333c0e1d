/-
  leaves.Same.
-/
import Derived.Test.YtdgnengfcabgjaaB10
import Derived.Test.YtdgnengfcabgjaaB12
namespace Go.Proofs.Ytdgnengfcabgjaa
open Go.RowKit

/-- Are two rows alike, leaf by leaf? -/
def sameLs : List Lf → List Lf → Bool
  | [], [] => true
  | x :: xs, y :: ys => alikeB x y && sameLs xs ys
  | _, _ => false
theorem sameLs_len : ∀ {xs ys : List Lf}, xs.length ≠ ys.length → sameLs xs ys = false
  | [], [], h => by simp at h
  | [], _ :: _, _ => rfl
  | _ :: _, [], _ => rfl
  | x :: xs, y :: ys, h => by rw [sameLs, sameLs_len (by simpa using h), Bool.and_false]
theorem sameLs_drop {xs ys : List Lf} {k : Nat} (h1 : k < xs.length) (h2 : k < ys.length) : sameLs (xs.drop k) (ys.drop k) = (alikeB xs[k] ys[k] && sameLs (xs.drop (k + 1)) (ys.drop (k + 1))) := by
  rw [List.drop_eq_getElem_cons h1, List.drop_eq_getElem_cons h2, sameLs]
set_option maxHeartbeats 2000000 in
theorem equalF_any {xs ys : List Lf} {v u : Value} {B : Nat} {w : World} (hB : B ≤ w.heap.size) (hx : LvsIn w B v xs) (hy : LvsIn w B u ys) (hlen : xs.length ≤ 100000) (hl : ∀ x ∈ xs, x.path.length ≤ 10000) (hf : ∀ x ∈ xs, x.doc.Fit) (hg : ∀ y ∈ ys, y.doc.Fit) (hne : xs.length = ys.length) :
    Calls Try.prog 50 #[v, u, .func (.func 51) #[] #[]] w fun e w' => e = .returned (.bool (sameLs xs ys)) ∧ Below w.heap.size w w' := by
  obtain ⟨A, c, rfl, _, hk⟩ := hx
  obtain ⟨A', c', rfl, _, hk'⟩ := hy
  obtain ⟨N, hN⟩ : ∃ N, N = xs.length := ⟨_, rfl⟩
  rw [← hne, ← hN]
  have HX := Lib.hid hk; have HY := Lib.hid hk'; have HL := Lib.hid hl; have HF := Lib.hid hf; have HG := Lib.hid hg; have HN := Lib.hid hN; have HE := Lib.hid hne
  have hN2 : N ≤ 100000 := by omega
  clear hk hk' hl hf hg hN hne hlen
  go_enter Try.func50, Try.ntmps50
  go_wp2_with fail
  go_loopw [17] (fun i wr => ∃ k : Nat, k ≤ N ∧ i = .int .i64 k ∧ Hid (sameLs xs ys = sameLs (xs.drop k) (ys.drop k)) ∧ Hid (Below w.heap.size w wr)) (fun i _ => N - (intOf i).toNat)
  case atStart => exact ⟨0, Nat.zero_le _, rfl, Lib.hid rfl, Lib.hid (Below.refl _ _)⟩
  case round =>
    obtain ⟨k, hk0, rfl, HR, HB⟩ := hrel
    by_cases hlt : k < N
    · have hkx : k < xs.length := HN.out ▸ hlt
      have hky : k < ys.length := HE.out ▸ hkx
      obtain ⟨b, off, rfl, hb, hcx⟩ := HX.out (Nat.lt_of_le_of_lt (Nat.zero_le _) hkx)
      obtain ⟨v0, v1, v2, v3, v4, v5, c0, c1, c2, c3, c4, c5, hsp, hsd⟩ := hcx k hkx
      obtain ⟨b', off', rfl, hb', hcy⟩ := HY.out (Nat.lt_of_le_of_lt (Nat.zero_le _) hky)
      obtain ⟨u0, u1, u2, u3, u4, u5, d0, d1, d2, d3, d4, d5, hsq, hse⟩ := hcy k hky
      have hbw : b < w.heap.size := by omega
      have hbw' : b' < w.heap.size := by omega
      rw [← HB.out.cell (p := ⟨b, _, none⟩) hbw] at c0 c1 c2 c3 c4 c5
      rw [← HB.out.cell (p := ⟨b', _, none⟩) hbw'] at d0 d1 d2 d3 d4 d5
      have hs := HB.out.size
      have hlti : (k : Int) < (N : Int) := by omega
      have hone := lf_one hsp hsd
      have hone' := lf_one hsq hse
      clear hcx hcy
      go_wp2_with fail
      have hb6 : Box6 _ _ _ _ _ _ _ _ := Box6.new wr (.slice none 0 0) (.int .i64 0) (.int .i64 0) (.string ⟨#[]⟩) (.slice none 0 0) (.slice none 0 0)
      obtain ⟨W1, b61, _, hbel, hrun⟩ := Box6.fill (P := Try.prog) hb6 v0 v1 v2 v3 v4 v5 hone (fun _ w' => Result.ok Next.skip w')
      rw [hrun]
      have hw1 : Below wr.heap.size wr W1 := ((Below.refl _ wr).alloc (Nat.le_refl _) _).trans hbel
      have hs1 : wr.heap.size < W1.heap.size := heap_lt b61
      rw [← hw1.cell (p := ⟨b', _, none⟩) (Nat.lt_of_lt_of_le hbw' hs)] at d0 d1 d2 d3 d4 d5
      clear hrun hbel hb6 c0 c1 c2 c3 c4 c5
      go_wp2_with fail
      have hb6 : Box6 _ _ _ _ _ _ _ _ := Box6.new W1 (.slice none 0 0) (.int .i64 0) (.int .i64 0) (.string ⟨#[]⟩) (.slice none 0 0) (.slice none 0 0)
      obtain ⟨W2, b62, _, hbel, hrun⟩ := Box6.fill (P := Try.prog) hb6 u0 u1 u2 u3 u4 u5 hone' (fun _ w' => Result.ok Next.skip w')
      rw [hrun]
      have hw2 : Below W1.heap.size W1 W2 := ((Below.refl _ W1).alloc (Nat.le_refl _) _).trans hbel
      have hs2 : W1.heap.size ≤ W2.heap.size := hw2.size
      have hw : Below w.heap.size w W2 := HB.out.trans ((hw1.mono hs).trans (hw2.mono (by omega)))
      obtain ⟨e0, e1, e2, e3, e4, e5⟩ := (show Box6 W2 wr.heap.size v0 v1 v2 v3 v4 v5 from (hw2.block _ hs1).trans b61).cells
      obtain ⟨f0, f1, f2, f3, f4, f5⟩ := b62.cells
      have hA := alike_any (x := xs[k]) (y := ys[k]) (B := B) (w := W2) (by omega) (hsp.keep fun _ h => hw.cell (Nat.lt_of_lt_of_le h hB)) (hsd.keep (Nat.le_refl _) fun _ h => hw.cell (Nat.lt_of_lt_of_le h hB)) (hsq.keep fun _ h => hw.cell (Nat.lt_of_lt_of_le h hB)) (hse.keep (Nat.le_refl _) fun _ h => hw.cell (Nat.lt_of_lt_of_le h hB))
        (HL.out _ (List.getElem_mem hkx)) (HF.out _ (List.getElem_mem hkx)) (HG.out _ (List.getElem_mem hky))
      have hR := HR.out.trans (sameLs_drop hkx hky)
      have HW := Lib.hid hw
      have hsw : w.heap.size ≤ W2.heap.size := hw.size
      clear hrun hbel hb6 d0 d1 d2 d3 d4 d5 hsp hsd hsq hse hone hone' b61 b62 hw1 hw2 hw HR
      by_cases ha : alikeB xs[k] ys[k] = true
      · rw [ha] at hA hR
        rw [Bool.true_and] at hR
        have HA := Lib.hid hA; have HR2 := Lib.hid hR
        clear hA hR ha
        go_wp2_with (go_at_call 51; refine HA.out.mono ?_; rintro e w' ⟨rfl, h2⟩; have H2 := Lib.hid h2; clear h2 HA)
        go_roundw
        case rel => exact ⟨k + 1, hlt, by first | rfl | go_num, HR2, Lib.hid (HW.out.trans (H2.out.mono hsw))⟩
        case measure => simp [intOf]; omega
      · have ha2 : alikeB xs[k] ys[k] = false := by simpa using ha
        rw [ha2] at hA hR
        rw [Bool.false_and] at hR
        have HA := Lib.hid hA; have HR2 := Lib.hid hR
        clear hA hR ha ha2
        go_wp2_with (go_at_call 51; refine HA.out.mono ?_; rintro e w' ⟨rfl, h2⟩; have H2 := Lib.hid h2; clear h2 HA)
        go_ret
        exact ⟨by rw [HR2.out]; rfl, HW.out.trans (H2.out.mono hsw)⟩
    · have hlti : ¬ (k : Int) < (N : Int) := by omega
      have h1 := HN.out; have h2 := HE.out
      have hend : sameLs (xs.drop k) (ys.drop k) = true := by rw [List.drop_eq_nil_of_le (by omega), List.drop_eq_nil_of_le (by omega)]; rfl
      have HR2 := Lib.hid (HR.out.trans hend)
      clear HR h1 h2 hend
      go_wp2_with fail
      go_ret
      exact ⟨by rw [HR2.out]; rfl, HB.out⟩
theorem equalF_ne {A A' : Option Addr} {n n' c c' : Nat} (h : n ≠ n') (w : World) :
    Calls Try.prog 50 #[.slice A n c, .slice A' n' c', .func (.func 51) #[] #[]] w fun e w' => e = .returned (.bool false) ∧ w' = w := by
  have h1 : ¬ (n : Int) = (n' : Int) := by omega
  clear h
  go_enter Try.func50, Try.ntmps50
  go_wp2_with fail
  go_ret
  exact ⟨rfl, rfl⟩
theorem lsame_any {xs ys : List Lf} {v u : Value} {B : Nat} {w : World} (hB : B ≤ w.heap.size) (hx : LvsIn w B v xs) (hy : LvsIn w B u ys) (hlen : xs.length ≤ 100000) (hl : ∀ x ∈ xs, x.path.length ≤ 10000) (hf : ∀ x ∈ xs, x.doc.Fit) (hg : ∀ y ∈ ys, y.doc.Fit) :
    Calls Try.prog 23 #[v, u] w fun e w' => e = .returned (.bool (sameLs xs ys)) ∧ Below w.heap.size w w' := by
  have hE : Calls Try.prog 50 #[v, u, .func (.func 51) #[] #[]] w fun e w' => e = .returned (.bool (sameLs xs ys)) ∧ Below w.heap.size w w' := by
    by_cases h : xs.length = ys.length
    · exact equalF_any hB hx hy hlen hl hf hg h
    · obtain ⟨A, c, rfl, _⟩ := hx
      obtain ⟨A', c', rfl, _⟩ := hy
      rw [sameLs_len h]
      refine (equalF_ne h w).mono ?_
      rintro e w' ⟨rfl, rfl⟩
      exact ⟨rfl, Below.refl _ _⟩
  have HE := Lib.hid hE
  clear hE hx hy
  go_enter Try.func23, Try.ntmps23
  go_wp2_with (go_at_call 50; refine HE.out.mono ?_; rintro e w' ⟨rfl, h2⟩; have H2 := Lib.hid h2; clear h2)
  go_ret
  exact ⟨rfl, H2.out⟩
end Go.Proofs.Ytdgnengfcabgjaa
