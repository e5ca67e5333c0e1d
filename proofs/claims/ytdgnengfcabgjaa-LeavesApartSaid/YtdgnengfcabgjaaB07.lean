/-
  
-/
import Derived.Test.YtdgnengfcabgjaaB02
import Derived.Test.YtdgnengfcabgjaaB05
import Derived.Test.YtdgnengfcabgjaaB06
import Derived.StillTailTactics
import Derived.WalkLawsBesides
import Derived.Deep.QuietTactic
import Derived.BigQuiet
namespace Go.Proofs.Ytdgnengfcabgjaa
open Go.RowKit

theorem compareInt_eq (a b : Int) : Lib.compareInt a b = icmp a b := rfl
theorem cmpInt_any (x y : Int) (w : World) : Calls Try.prog 87 #[.int .i64 x, .int .i64 y] w fun e w' => e = .returned (.int .i64 (icmp x y)) ∧ w' = w := by
  rw [← compareInt_eq]; exact Try.cmp_Compare_int x y w
theorem cmpStr_any (x y : ByteArray) (w : World) : Calls Try.prog 77 #[.string x, .string y] w fun e w' => e = .returned (.int .i64 (scmp x y)) ∧ w' = w := Try.strings_Compare x y w

set_option maxHeartbeats 400000 in
theorem cmpStr2_any (x y : ByteArray) (w : World) : Calls Try.prog 72 #[.string x, .string y] w fun e w' => e = .returned (.int .i64 (scmp x y)) ∧ w = w' := by
  rcases scmp_ordered.cases x y trivial trivial with h | h | h
  · have h1 := scmp_lt h
    have E := Lib.hid h; clear h
    go_enter Try.func72, Try.ntmps72
    go_wp2_with (go_at_call 84; refine (isNaNs_any _ _).mono ?_; rintro e w' ⟨rfl, rfl⟩)
    go_ret
    exact ⟨ret_int E.out.symm, rfl⟩
  · have h1 := scmp_nlt (x := x) (y := y) (by omega)
    have h2 := scmp_eq h
    have E := Lib.hid h; clear h
    go_enter Try.func72, Try.ntmps72
    go_wp2_with (go_at_call 84; refine (isNaNs_any _ _).mono ?_; rintro e w' ⟨rfl, rfl⟩)
    go_ret
    exact ⟨ret_int E.out.symm, rfl⟩
  · have h1 := scmp_nlt (x := x) (y := y) (by omega)
    have h2 := scmp_ne (x := x) (y := y) (by omega)
    have E := Lib.hid h; clear h
    go_enter Try.func72, Try.ntmps72
    go_wp2_with (go_at_call 84; refine (isNaNs_any _ _).mono ?_; rintro e w' ⟨rfl, rfl⟩)
    go_ret
    exact ⟨ret_int E.out.symm, rfl⟩


set_option maxHeartbeats 1000000 in
theorem kcmp_any (xs ys : List ByteArray) (v u : Value) (B : Nat) (w : World) (hv : Strs w B v xs) (hu : Strs w B u ys) (hx : xs.length ≤ 10000) (hy : ys.length ≤ 10000) :
    Calls Try.prog 52 #[v, u] w fun e w' => e = .returned (.int .i64 (kcmp xs ys)) ∧ w = w' := by
  obtain ⟨A, c, rfl, hxc, hxs⟩ := hv
  obtain ⟨A', c', rfl, hyc, hys⟩ := hu
  have HX := Lib.hid hxs; clear hxs
  have HY := Lib.hid hys; clear hys
  clear hxc hyc
  go_enter Try.func52, Try.ntmps52
  go_wp2_with fail
  go_loop [11] (fun i => ∃ k : Nat, k ≤ xs.length ∧ k ≤ ys.length ∧ i = .int .i64 k ∧ kcmp xs ys = kcmp (xs.drop k) (ys.drop k)) (fun i => xs.length - (intOf i).toNat)
  case atStart => exact ⟨0, Nat.zero_le _, Nat.zero_le _, rfl, rfl⟩
  case round =>
    obtain ⟨k, hk1, hk2, rfl, hrest⟩ := hrel
    have HR := Lib.hid hrest; clear hrest
    by_cases hlt : k < xs.length
    · obtain ⟨b, off, rfl, _, hcx⟩ := HX.out (by omega)
      have gx := hcx k hlt
      clear hcx
      by_cases hlt2 : k < ys.length
      · obtain ⟨b', off', rfl, _, hcy⟩ := HY.out (by omega)
        have gy := hcy k hlt2
        clear hcy
        rcases scmp_ordered.cases xs[k] ys[k] trivial trivial with h | h | h
        · have E := Lib.hid (kcmp_apart hlt hlt2 (by omega))
          go_wp2_with (go_at_call 72; refine (cmpStr2_any _ _ _).mono ?_; rintro e w' ⟨rfl, rfl⟩)
          go_ret
          exact ⟨ret_int (by rw [HR.out, E.out, h]), rfl⟩
        · have E := Lib.hid (kcmp_same hlt hlt2 h)
          go_wp2_with (go_at_call 72; refine (cmpStr2_any _ _ _).mono ?_; rintro e w' ⟨rfl, rfl⟩)
          go_round
          case rel => exact ⟨k + 1, by omega, by omega, by go_num, by rw [HR.out, E.out]⟩
          case measure => simp [intOf]; omega
        · have E := Lib.hid (kcmp_apart hlt hlt2 (by omega))
          go_wp2_with (go_at_call 72; refine (cmpStr2_any _ _ _).mono ?_; rintro e w' ⟨rfl, rfl⟩)
          go_ret
          exact ⟨ret_int (by rw [HR.out, E.out, h]), rfl⟩
      · have E := Lib.hid (kcmp_more hlt (by omega : ys.length ≤ k))
        go_wp2_with fail
        go_ret
        exact ⟨ret_int (by rw [HR.out, E.out]), rfl⟩
    · by_cases hlt2 : k < ys.length
      · have E := Lib.hid (kcmp_less (by omega : xs.length ≤ k) hlt2)
        go_wp2_with fail
        go_ret
        exact ⟨ret_int (by rw [HR.out, E.out]), rfl⟩
      · have E := Lib.hid (kcmp_end (by omega : xs.length ≤ k) (by omega : ys.length ≤ k))
        go_wp2_with fail
        go_ret
        exact ⟨ret_int (by rw [HR.out, E.out]), rfl⟩

theorem kcmp_any' (xs ys : List ByteArray) (v u : Value) (B : Nat) (w : World) (hv : Strs w B v xs) (hu : Strs w B u ys) (hx : xs.length ≤ 10000) (hy : ys.length ≤ 10000) :
    Calls Try.prog 52 #[v, u] w fun e w' => e = .returned (.int .i64 (kcmp xs ys)) ∧ w' = w :=
  (kcmp_any xs ys v u B w hv hu hx hy).mono fun _ _ ⟨h, h'⟩ => ⟨h, h'.symm⟩

def orL : List Int → Int
  | [] => 0
  | a :: r => orI a (orL r)
theorem orL_zero {zs : List Int} {k : Nat} (h : k < zs.length) (hz : zs[k] = 0) : orL (zs.drop k) = orL (zs.drop (k + 1)) := by
  rw [List.drop_eq_getElem_cons h]; simp [orL, orI, hz]
theorem orL_some {zs : List Int} {k : Nat} (h : k < zs.length) (hz : zs[k] ≠ 0) : orL (zs.drop k) = zs[k] := by
  rw [List.drop_eq_getElem_cons h]; simp [orL, orI, hz]
set_option maxHeartbeats 400000 in
theorem or_any (b n c : Nat) (zs : List Int) (w : World) (hn : n = zs.length) (hl : zs.length ≤ 10000) (hc : ∀ (i : Nat) (h : i < zs.length), w.cell? ⟨b, i, none⟩ = some (.int .i64 zs[i])) :
    Calls Try.prog 86 #[.slice (some ⟨b, 0, none⟩) n c] w fun e w' => e = .returned (.int .i64 (orL zs)) ∧ w = w' := by
  subst hn
  have HC := Lib.hid hc; clear hc
  go_enter Try.func86, Try.ntmps86
  go_wp2_with fail
  go_loop [8] (fun i => ∃ k : Nat, k ≤ zs.length ∧ i = .int .i64 k ∧ orL zs = orL (zs.drop k)) (fun i => zs.length - (intOf i).toNat)
  case atStart => exact ⟨0, Nat.zero_le _, rfl, rfl⟩
  case round =>
    obtain ⟨k, hk, rfl, hrest⟩ := hrel
    have HR := Lib.hid hrest; clear hrest
    by_cases hlt : k < zs.length
    · have hcell : w.cell? ⟨b, 0 + k, none⟩ = some (.int .i64 zs[k]) := by rw [Nat.zero_add]; exact HC.out k hlt
      have hcell2 : w.cell? ⟨b, k, none⟩ = some (.int .i64 zs[k]) := HC.out k hlt
      by_cases hz : zs[k] = 0
      · have E := Lib.hid (orL_zero hlt hz)
        go_wp2_with fail
        go_round
        case rel => exact ⟨k + 1, by omega, by go_num, by rw [HR.out, E.out]⟩
        case measure => simp [intOf]; omega
      · have E := Lib.hid (orL_some hlt hz)
        have hz2 : (zs[k] != 0) = true := by simp [hz]
        go_wp2_with fail
        go_ret
        exact ⟨ret_int (by rw [HR.out, E.out]), rfl⟩
    · go_wp2_with fail
      go_ret
      exact ⟨ret_int (by rw [HR.out, List.drop_eq_nil_of_le (by omega)]; rfl), rfl⟩

theorem roots_eq (a b : D) : D.root a b = orL [icmp a.kind b.kind, icmp a.num b.num, scmp a.str b.str, icmp a.keys.length b.keys.length, kcmp a.keys b.keys, icmp a.kids.length b.kids.length] := by
  have : ∀ x, orI x 0 = x := fun x => by unfold orI; split <;> omega
  simp only [D.root, orL, this]
set_option maxHeartbeats 1000000 in
set_option maxRecDepth 100000 in
theorem roots_any (d d' : D) (v0 v1 v2 v3 v4 u0 u1 u2 u3 u4 : Value) (w : World) (B : Nat) (hB : B ≤ w.heap.size) (hd : DocIn w B d v0 v1 v2 v3 v4) (hd' : DocIn w B d' u0 u1 u2 u3 u4)
    (hk : d.keys.length ≤ 10000) (hk' : d'.keys.length ≤ 10000) :
    Calls Try.prog 74 #[.agg #[v0, v1, v2, v3, v4], .agg #[u0, u1, u2, u3, u4]] w fun e w' => e = .returned (.int .i64 (D.root d d')) ∧ Below w.heap.size w w' := by
  rw [roots_eq]
  obtain ⟨kind, num, str, keys, kids⟩ := d
  obtain ⟨kind', num', str', keys', kids'⟩ := d'
  simp only [DocIn] at hd hd'
  obtain ⟨rfl, rfl, rfl, hs, A4, c4, rfl, _, _⟩ := hd
  obtain ⟨rfl, rfl, rfl, hs', A4', c4', rfl, _, _⟩ := hd'
  have hs1 := hs; have hs1' := hs'
  obtain ⟨A3, c3, rfl, _, _⟩ := hs1
  obtain ⟨A3', c3', rfl, _, _⟩ := hs1'
  go_enter Try.func74, Try.ntmps74
  go_wp2_with fail
  refine wp_region_still_tail 34 (by kernel_rfl) (by kernel_rfl) ?_
  change wpStill _ _ (World.drew ((w.alloc _).alloc _)) (fun a' => wpList _ _ _ _ a' (World.drew ((w.alloc _).alloc _))) _ _
  simp only [List.take_succ_cons, List.take_zero, List.drop_succ_cons, List.drop_zero]
  repeat still_step
  still_call (cmpInt_any _ _ _)
  repeat still_step
  still_call (cmpInt_any _ _ _)
  repeat still_step
  still_call (cmpStr_any _ _ _)
  repeat still_step
  still_call (cmpInt_any _ _ _)
  repeat still_step
  still_call (kcmp_any' keys keys' _ _ B _ (hs.keep fun p hp => (World.cell?_alloc_lt (w.alloc _) _ p (by simp; omega)).trans (World.cell?_alloc_lt w _ p (by omega))) (hs'.keep fun p hp => (World.cell?_alloc_lt (w.alloc _) _ p (by simp; omega)).trans (World.cell?_alloc_lt w _ p (by omega))) hk hk')
  repeat still_step
  still_call (cmpInt_any _ _ _)
  repeat still_step
  refine wpStill_nil ?_
  go_wp2_with fail
  refine (or_any _ _ _ [icmp kind kind', icmp num num', scmp str str', icmp keys.length keys'.length, kcmp keys keys', icmp kids.length kids'.length] _ rfl (by simp) ?_).mono ?_
  · intro i hi
    match i, hi with
    | 0, _ => go_simp
    | 1, _ => go_simp
    | 2, _ => go_simp
    | 3, _ => go_simp
    | 4, _ => go_simp
    | 5, _ => go_simp
    | n + 6, h => exact absurd h (by simp)
  rintro e w' ⟨rfl, rfl⟩
  go_wp2_with fail
  go_ret
  exact ⟨rfl, (((Below.refl _ _).alloc (Nat.le_refl _) _).alloc (by simp) _).drew.alloc (by simp; omega) _⟩

theorem D.root_zero {d d' : D} (h : D.root d d' = 0) : d.kids.length = d'.kids.length := by
  have z : ∀ a b, orI a b = 0 → a = 0 ∧ b = 0 := fun a b hh => by unfold orI at hh; split at hh <;> omega
  have i : ∀ a b : Int, icmp a b = 0 → a = b := fun a b => (icmp_ordered.eq a b trivial trivial).1
  have h1 := i _ _ (z _ _ (z _ _ (z _ _ (z _ _ (z _ _ h).2).2).2).2).2
  omega

set_option maxHeartbeats 2000000 in
set_option maxRecDepth 100000 in
theorem compare_any (m : Nat) : ∀ (d d' : D) (v0 v1 v2 v3 v4 u0 u1 u2 u3 u4 : Value) (w : World) (B : Nat), d.depth ≤ m → d.Fit → d'.Fit → B ≤ w.heap.size → DocIn w B d v0 v1 v2 v3 v4 → DocIn w B d' u0 u1 u2 u3 u4 →
    Calls Try.prog 54 #[.agg #[v0, v1, v2, v3, v4], .agg #[u0, u1, u2, u3, u4]] w fun e w' => e = .returned (.int .i64 (D.cmp d d')) ∧ Below w.heap.size w w' := by
  induction m with
  | zero => intro d; obtain ⟨_, _, _, _, _⟩ := d; intro _ _ _ _ _ _ _ _ _ _ _ _ _ h; simp [D.depth] at h
  | succ m ih =>
    intro d d' v0 v1 v2 v3 v4 u0 u1 u2 u3 u4 w B hm hf hf' hB hd hd'
    have HF := Lib.hid hf; have HF' := Lib.hid hf'
    have hk := hf.keys; have hk' := hf'.keys; have hl := hf.kids
    clear hf hf'
    have IH := Lib.hid ih; clear ih
    have HD := Lib.hid hd; have HD' := Lib.hid hd'
    obtain ⟨A3, c3, A4, c4, rfl, rfl, rfl, rfl, rfl⟩ := hd.forms
    obtain ⟨A3', c3', A4', c4', rfl, rfl, rfl, rfl, rfl⟩ := hd'.forms
    have H4 := Lib.hid hd.kids_; have H4' := Lib.hid hd'.kids_
    clear hd hd'
    go_enter Try.func54, Try.ntmps54
    go_wp2_with fail
    refine (roots_any d d' _ _ _ _ _ _ _ _ _ _ _ B (by simp; omega) (HD.out.keep (Nat.le_refl _) fun p hp => (World.cell?_alloc_lt (w.alloc _) _ p (by simp; omega)).trans (World.cell?_alloc_lt w _ p (by omega))) (HD'.out.keep (Nat.le_refl _) fun p hp => (World.cell?_alloc_lt (w.alloc _) _ p (by simp; omega)).trans (World.cell?_alloc_lt w _ p (by omega))) hk hk').mono ?_
    rintro e w1 ⟨rfl, hb1⟩
    obtain ⟨c1, f1⟩ := below_add hb1
    by_cases hr : D.root d d' = 0
    · have HL := Lib.hid (D.root_zero hr)
      have E := Lib.hid (show D.cmp d d' = D.cmps d.kids d'.kids by rw [D.cmp_eq, hr]; rfl)
      go_wp2_with fail
      go_loopw [18] (fun i wr => ∃ k : Nat, k ≤ d.kids.length ∧ i = .int .i64 k ∧ D.cmps d.kids d'.kids = D.cmps (d.kids.drop k) (d'.kids.drop k) ∧
        Below (w.heap.size + 2) ((w.alloc (.cells #[.int .i64 d.kind, .int .i64 d.num, .string d.str, .slice A3 d.keys.length c3, .slice A4 d.kids.length c4] 25)).alloc
          (.cells #[.int .i64 d'.kind, .int .i64 d'.num, .string d'.str, .slice A3' d'.keys.length c3', .slice A4' d'.kids.length c4'] 25)) wr) (fun i _ => d.kids.length - (intOf i).toNat)
      case atStart => exact ⟨0, Nat.zero_le _, rfl, rfl, hb1.mono (by simp)⟩
      case round =>
        obtain ⟨k, hk0, rfl, hrest, hb⟩ := hrel
        have HR := Lib.hid hrest; clear hrest
        have hsz := hb.size
        simp only [World.size_alloc] at hsz
        by_cases hlt : k < d.kids.length
        · have hlt' : k < d'.kids.length := by have := HL.out; omega
          obtain ⟨_, _, h4⟩ := H4.out
          obtain ⟨b, off, rfl, hab, hkids⟩ := h4 (by omega)
          obtain ⟨_, _, h4'⟩ := H4'.out
          obtain ⟨b', off', rfl, hab', hkids'⟩ := h4' (by omega)
          have bc : ∀ b n, b < B → wr.cell? ⟨b, n, none⟩ = w.cell? ⟨b, n, none⟩ := fun b n hb0 => (hb.cell (p := ⟨b, n, none⟩) (by show b < _; omega)).trans
            ((World.cell?_alloc_lt (w.alloc _) _ ⟨b, n, none⟩ (by simp; omega)).trans (World.cell?_alloc_lt w _ ⟨b, n, none⟩ (by show b < _; omega)))
          have hcells := KidsIn.at_ hkids k hlt
          rw [Nat.zero_add] at hcells
          obtain ⟨x0, x1, x2, x3, x4, g0, g1, g2, g3, g4, hdk⟩ := hcells
          have hcells' := KidsIn.at_ hkids' k hlt'
          rw [Nat.zero_add] at hcells'
          obtain ⟨y0, y1, y2, y3, y4, g0', g1', g2', g3', g4', hdk'⟩ := hcells'
          rw [← bc _ _ hab] at g0 g1 g2 g3 g4
          rw [← bc _ _ hab'] at g0' g1' g2' g3' g4'
          have gb : wr.cell? ⟨w.heap.size + 1, 4, none⟩ = some (.slice (some ⟨b', off', none⟩) d'.kids.length c4') :=
            (hb.cell (p := ⟨w.heap.size + 1, 4, none⟩) (by show w.heap.size + 1 < w.heap.size + 2; omega)).trans (World.cell?_alloc_at _ _ _ _ (by simp))
          obtain ⟨X3, e3, X4, e4, rfl, rfl, rfl, rfl, rfl⟩ := hdk.forms
          obtain ⟨Y3, e3', Y4, e4', rfl, rfl, rfl, rfl, rfl⟩ := hdk'.forms
          have HK := Lib.hid hdk; have HK' := Lib.hid hdk'
          have HC := Lib.hid bc
          clear hdk hdk' bc hkids hkids' h4 h4'
          have hz2 : w.heap.size + 1 < wr.heap.size := by omega
          have hab2 : b < wr.heap.size := by omega
          have hab2' : b' < wr.heap.size := by omega
          go_wp2_with fail
          refine wp_region_still_tail 6 (by kernel_rfl) (by kernel_rfl) ?_
          change wpStill _ _ (World.drew (wr.alloc _)) (fun a' => wpList _ _ _ _ a' (World.drew (wr.alloc _))) _ _
          simp only [List.take_succ_cons, List.take_zero, List.drop_succ_cons, List.drop_zero]
          repeat still_step
          refine wpStill_nil ?_
          go_wp2_with fail
          have hk1 : (d.kids[k]).depth ≤ m := by have := D.depth_kid (d := d) hlt; omega
          have bw : Below B w (wr.alloc (.cells #[.int .i64 (d.kids[k]).kind, .int .i64 (d.kids[k]).num, .string (d.kids[k]).str, .slice X3 (d.kids[k]).keys.length e3, .slice X4 (d.kids[k]).kids.length e4] 25)).drew :=
            (((((Below.refl _ _).alloc (by omega) _).alloc (by simp; omega) _).trans (hb.mono (by omega))).alloc (by omega) _).drew
          refine (IH.out d.kids[k] d'.kids[k] _ _ _ _ _ _ _ _ _ _ _ B hk1 (HF.out.kid hlt) (HF'.out.kid hlt') (by simp; omega) (HK.out.below bw) (HK'.out.below bw)).mono ?_
          rintro e w2 ⟨rfl, hb2⟩
          have hb3 : Below (w.heap.size + 2) ((w.alloc (.cells #[.int .i64 d.kind, .int .i64 d.num, .string d.str, .slice A3 d.keys.length c3, .slice (some ⟨b, off, none⟩) d.kids.length c4] 25)).alloc
            (.cells #[.int .i64 d'.kind, .int .i64 d'.num, .string d'.str, .slice A3' d'.keys.length c3', .slice (some ⟨b', off', none⟩) d'.kids.length c4'] 25)) w2 :=
            ((hb.alloc (by omega) _).drew).trans (hb2.mono (by simp; omega))
          by_cases hz : D.cmp d.kids[k] d'.kids[k] = 0
          · have ES := Lib.hid (cmps_same hlt hlt' hz)
            go_wp2_with fail
            go_roundw
            case rel => exact ⟨k + 1, by omega, by go_num, by rw [HR.out, ES.out], hb3⟩
            case measure => simp [intOf]; omega
          · have ES := Lib.hid (cmps_apart hlt hlt' hz)
            have hz2 : (D.cmp d.kids[k] d'.kids[k] != 0) = true := by simp [hz]
            go_wp2_with fail
            go_ret
            exact ⟨ret_int (by rw [E.out, HR.out, ES.out]), (((Below.refl _ _).alloc (Nat.le_refl _) _).alloc (by simp) _).trans (hb3.mono (by omega))⟩
        · have E2 := Lib.hid (cmps_end (xs := d.kids) (ys := d'.kids) (k := k) (by omega) (by have := HL.out; omega))
          go_wp2_with fail
          go_ret
          exact ⟨ret_int (by rw [E.out, HR.out, E2.out]), (((Below.refl _ _).alloc (Nat.le_refl _) _).alloc (by simp) _).trans (hb.mono (by omega))⟩
    · have E := Lib.hid (show D.cmp d d' = D.root d d' by rw [D.cmp_eq]; unfold orI; rw [if_neg hr])
      have hr2 : (D.root d d' != 0) = true := by simp [hr]
      go_wp2_with fail
      go_ret
      exact ⟨ret_int E.out.symm, (((Below.refl _ _).alloc (Nat.le_refl _) _).alloc (by simp) _).trans (hb1.mono (by simp; omega))⟩
end Go.Proofs.Ytdgnengfcabgjaa
