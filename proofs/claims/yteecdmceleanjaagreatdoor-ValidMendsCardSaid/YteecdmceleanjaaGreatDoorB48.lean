/-
  The document's own Compare, Same and Right: as the program's.
-/
import Derived.Test.YteecdmceleanjaaGreatDoorB47
import Derived.StillTailTactics
import Derived.WalkLawsBesides
namespace Go.Proofs.YteecdmceleanjaaGreatDoor
open Go.RowKit

theorem orI_of {a b : Int} (h : a ≠ 0) : orI a b = a := by unfold orI; rw [if_neg h]
theorem orI_zero {a b : Int} (h : a = 0) : orI a b = b := by unfold orI; rw [if_pos h]
theorem icmp_ne {a b : Int} (h : a ≠ b) : icmp a b ≠ 0 := fun e => h ((icmp_ordered.eq a b trivial trivial).1 e)
theorem icmp_same {a b : Int} (h : a = b) : icmp a b = 0 := (icmp_ordered.eq a b trivial trivial).2 h
theorem icmp_if {a b : Int} (h : a ≠ b) : icmp a b = if decide (a < b) = true then -1 else 1 := by
  unfold icmp
  by_cases h1 : a < b
  · simp [h1]
  · rw [if_neg h1, if_pos (by omega)]; simp [h1]
theorem scmp_if {a b : ByteArray} (h : scmp a b ≠ 0) : scmp a b = if Op.bytesLess a.toList b.toList = true then -1 else 1 := by
  rcases scmp_ordered.cases a b trivial trivial with h1 | h1 | h1
  · rw [scmp_lt h1, h1]; rfl
  · exact absurd h1 h
  · rw [scmp_nlt (x := a) (y := b) (by omega), h1]; rfl
theorem D.cmp_all (a b : D) : D.cmp a b = orI (icmp a.kind b.kind) (orI (icmp a.num b.num) (orI (scmp a.str b.str) (orI (icmp a.keys.length b.keys.length) (orI (kcmp a.keys b.keys) (orI (icmp a.kids.length b.kids.length) (D.cmps a.kids b.kids)))))) := by
  rw [D.cmp_eq, D.root]
  have asc : ∀ x y z : Int, orI (orI x y) z = orI x (orI y z) := fun x y z => by
    by_cases h : x = 0
    · rw [orI_zero h, orI_zero h]
    · rw [orI_of h, orI_of h, orI_of h]
  simp only [asc]
theorem cmp1 {a b : D} (h : a.kind ≠ b.kind) : D.cmp a b = if decide (a.kind < b.kind) = true then -1 else 1 := by
  rw [D.cmp_all, orI_of (icmp_ne h), icmp_if h]
theorem cmp2 {a b : D} (h0 : a.kind = b.kind) (h : a.num ≠ b.num) : D.cmp a b = if decide (a.num < b.num) = true then -1 else 1 := by
  rw [D.cmp_all, orI_zero (icmp_same h0), orI_of (icmp_ne h), icmp_if h]
theorem cmp3 {a b : D} (h0 : a.kind = b.kind) (h1 : a.num = b.num) (h : scmp a.str b.str ≠ 0) : D.cmp a b = if Op.bytesLess a.str.toList b.str.toList = true then -1 else 1 := by
  rw [D.cmp_all, orI_zero (icmp_same h0), orI_zero (icmp_same h1), orI_of h, scmp_if h]
theorem cmp4 {a b : D} (h0 : a.kind = b.kind) (h1 : a.num = b.num) (h2 : scmp a.str b.str = 0) (h : (a.keys.length : Int) ≠ b.keys.length) : D.cmp a b = if decide ((a.keys.length : Int) < b.keys.length) = true then -1 else 1 := by
  rw [D.cmp_all, orI_zero (icmp_same h0), orI_zero (icmp_same h1), orI_zero h2, orI_of (icmp_ne h), icmp_if h]
theorem cmp5 {a b : D} (h0 : a.kind = b.kind) (h1 : a.num = b.num) (h2 : scmp a.str b.str = 0) (h3 : (a.keys.length : Int) = b.keys.length) (h : kcmp a.keys b.keys ≠ 0) : D.cmp a b = kcmp a.keys b.keys := by
  rw [D.cmp_all, orI_zero (icmp_same h0), orI_zero (icmp_same h1), orI_zero h2, orI_zero (icmp_same h3), orI_of h]
theorem cmp6 {a b : D} (h0 : a.kind = b.kind) (h1 : a.num = b.num) (h2 : scmp a.str b.str = 0) (h3 : (a.keys.length : Int) = b.keys.length) (h4 : kcmp a.keys b.keys = 0) (h : (a.kids.length : Int) ≠ b.kids.length) : D.cmp a b = if decide ((a.kids.length : Int) < b.kids.length) = true then -1 else 1 := by
  rw [D.cmp_all, orI_zero (icmp_same h0), orI_zero (icmp_same h1), orI_zero h2, orI_zero (icmp_same h3), orI_zero h4, orI_of (icmp_ne h), icmp_if h]
theorem cmp7 {a b : D} (h0 : a.kind = b.kind) (h1 : a.num = b.num) (h2 : scmp a.str b.str = 0) (h3 : (a.keys.length : Int) = b.keys.length) (h4 : kcmp a.keys b.keys = 0) (h5 : (a.kids.length : Int) = b.kids.length) : D.cmp a b = D.cmps a.kids b.kids := by
  rw [D.cmp_all, orI_zero (icmp_same h0), orI_zero (icmp_same h1), orI_zero h2, orI_zero (icmp_same h3), orI_zero h4, orI_zero (icmp_same h5)]
theorem order_as {b : Bool} {x : Int} {w : World} (h : x = if b = true then -1 else 1) : Calls Tryz.prog 86 #[.bool b] w fun e w' => e = .returned (.int .i64 x) ∧ w' = w := by
  subst h; exact order_any b w
/-- Two boxes: what they hold, behind whatever turned nothing below. -/
theorem box2_cell {w wr : World} {v0 v1 v2 v3 v4 u0 u1 u2 u3 u4 : Value} (h : Below (w.heap.size + 2) ((w.alloc (.cells #[v0, v1, v2, v3, v4] 29)).alloc (.cells #[u0, u1, u2, u3, u4] 29)) wr) :
    (wr.cell? ⟨w.heap.size, 3, none⟩ = some v3 ∧ wr.cell? ⟨w.heap.size, 4, none⟩ = some v4) ∧ wr.cell? ⟨w.heap.size + 1, 3, none⟩ = some u3 ∧ wr.cell? ⟨w.heap.size + 1, 4, none⟩ = some u4 := by
  refine ⟨⟨?_, ?_⟩, ?_, ?_⟩
  · exact (h.cell (p := ⟨w.heap.size, _, none⟩) (by show w.heap.size < _; omega)).trans ((World.cell?_alloc_lt (w.alloc _) _ ⟨w.heap.size, _, none⟩ (by simp)).trans (World.cell?_alloc_at _ _ _ _ rfl))
  · exact (h.cell (p := ⟨w.heap.size, _, none⟩) (by show w.heap.size < _; omega)).trans ((World.cell?_alloc_lt (w.alloc _) _ ⟨w.heap.size, _, none⟩ (by simp)).trans (World.cell?_alloc_at _ _ _ _ rfl))
  · exact (h.cell (p := ⟨w.heap.size + 1, _, none⟩) (by show w.heap.size + 1 < _; omega)).trans (World.cell?_alloc_at _ _ _ _ (by simp))
  · exact (h.cell (p := ⟨w.heap.size + 1, _, none⟩) (by show w.heap.size + 1 < _; omega)).trans (World.cell?_alloc_at _ _ _ _ (by simp))
theorem box2_old {w wr : World} {o o' : Obj} {b n : Nat} (h : Below (w.heap.size + 2) ((w.alloc o).alloc o') wr) (hb : b < w.heap.size) : wr.cell? ⟨b, n, none⟩ = w.cell? ⟨b, n, none⟩ :=
  (h.cell (p := ⟨b, n, none⟩) (by show b < _; omega)).trans ((World.cell?_alloc_lt (w.alloc _) _ ⟨b, n, none⟩ (by simp; omega)).trans (World.cell?_alloc_lt w _ ⟨b, n, none⟩ (by show b < _; omega)))
theorem box2_below {w wr : World} {o o' : Obj} (h : Below (w.heap.size + 2) ((w.alloc o).alloc o') wr) : Below w.heap.size w wr := (((Below.refl _ _).alloc (Nat.le_refl _) _).alloc (by simp) _).trans (h.mono (by omega))
theorem Strs.at_ {w : World} {B : Nat} {A : Option Addr} {n c : Nat} {xs : List ByteArray} (h : Strs w B (.slice A n c) xs) : n = xs.length ∧ (0 < xs.length → ∃ b off, A = some ⟨b, off, none⟩ ∧ b < B ∧ ∀ (i : Nat) (h : i < xs.length), w.cell? ⟨b, off + i, none⟩ = some (.string xs[i])) := by
  obtain ⟨A', c', e, _, h2⟩ := h
  injection e with e1 e2 e3; subst e1
  exact ⟨e2, h2⟩

set_option maxHeartbeats 8000000 in
set_option maxRecDepth 100000 in
theorem rcompare_any (m : Nat) : ∀ (d d' : D) (v0 v1 v2 v3 v4 u0 u1 u2 u3 u4 : Value) (w : World) (B : Nat), d.depth ≤ m → d.Fit → d'.Fit → B ≤ w.heap.size → DocIn w B d v0 v1 v2 v3 v4 → DocIn w B d' u0 u1 u2 u3 u4 →
    Calls Tryz.prog 53 #[.agg #[v0, v1, v2, v3, v4], .agg #[u0, u1, u2, u3, u4]] w fun e w' => e = .returned (.int .i64 (D.cmp d d')) ∧ Below w.heap.size w w' := by
  induction m with
  | zero => intro d; obtain ⟨_, _, _, _, _⟩ := d; intro _ _ _ _ _ _ _ _ _ _ _ _ _ h; simp [D.depth] at h
  | succ m ih =>
    intro d d' v0 v1 v2 v3 v4 u0 u1 u2 u3 u4 w B hm hf hf' hB hd hd'
    have HF := Lib.hid hf; have HF' := Lib.hid hf'
    have hk := hf.keys; have hk' := hf'.keys; have hl := hf.kids; have hl' := hf'.kids
    clear hf hf'
    have IH := Lib.hid ih; clear ih
    have hk3 := hd.keys_; have hk3' := hd'.keys_
    obtain ⟨A3, c3, A4, c4, rfl, rfl, rfl, rfl, rfl⟩ := hd.forms
    obtain ⟨A3', c3', A4', c4', rfl, rfl, rfl, rfl, rfl⟩ := hd'.forms
    have HK3 := Lib.hid hk3.at_; have HK3' := Lib.hid hk3'.at_
    have H4 := Lib.hid hd.kids_; have H4' := Lib.hid hd'.kids_
    clear hd hd' hk3 hk3'
    by_cases e0 : d.kind = d'.kind
    case neg =>
      have E := Lib.hid (cmp1 e0)
      go_enter Tryz.func53, Tryz.ntmps53
      go_wp2_with fail
      refine (order_as (x := D.cmp d d') (by first | exact E.out | (rw [E.out]; simp))).mono ?_
      rintro e w' ⟨rfl, rfl⟩
      go_wp2_with fail
      go_ret
      exact ⟨rfl, ((Below.refl _ _).alloc (Nat.le_refl _) _).alloc (by simp) _⟩
    have E0 := Lib.hid e0
    have e0' : (d.kind != d'.kind) = false := by simp [e0]
    clear e0
    by_cases e1 : d.num = d'.num
    case neg =>
      have E := Lib.hid (cmp2 E0.out e1)
      have e1' : (d.num != d'.num) = true := by simp [e1]
      clear e1
      go_enter Tryz.func53, Tryz.ntmps53
      go_wp2_with fail
      refine (order_as (x := D.cmp d d') (by first | exact E.out | (rw [E.out]; simp))).mono ?_
      rintro e w' ⟨rfl, rfl⟩
      go_wp2_with fail
      go_ret
      exact ⟨rfl, ((Below.refl _ _).alloc (Nat.le_refl _) _).alloc (by simp) _⟩
    have E1 := Lib.hid e1
    have e1' : (d.num != d'.num) = false := by simp [e1]
    clear e1
    by_cases e2 : scmp d.str d'.str = 0
    case neg =>
      have E := Lib.hid (cmp3 E0.out E1.out e2)
      have e2' := scmp_ne e2
      clear e2
      go_enter Tryz.func53, Tryz.ntmps53
      go_wp2_with fail
      refine (order_as (x := D.cmp d d') (by first | exact E.out | (rw [E.out]; simp))).mono ?_
      rintro e w' ⟨rfl, rfl⟩
      go_wp2_with fail
      go_ret
      exact ⟨rfl, ((Below.refl _ _).alloc (Nat.le_refl _) _).alloc (by simp) _⟩
    have E2 := Lib.hid e2
    have e2' := scmp_eq e2
    clear e2
    by_cases e3 : (d.keys.length : Int) = d'.keys.length
    case neg =>
      have E := Lib.hid (cmp4 E0.out E1.out E2.out e3)
      have e3' : ((d.keys.length : Int) != (d'.keys.length : Int)) = true := by simpa using fun h => e3 (by omega)
      clear e3
      go_enter Tryz.func53, Tryz.ntmps53
      go_wp2_with fail
      refine (order_as (x := D.cmp d d') (by first | exact E.out | (rw [E.out]; simp))).mono ?_
      rintro e w' ⟨rfl, rfl⟩
      go_wp2_with fail
      go_ret
      exact ⟨rfl, ((Below.refl _ _).alloc (Nat.le_refl _) _).alloc (by simp) _⟩
    have E3 := Lib.hid e3
    have e3' : ((d.keys.length : Int) != (d'.keys.length : Int)) = false := by simp; omega
    have hkk : d.keys.length = d'.keys.length := by omega
    have HKK := Lib.hid hkk
    clear e3 hkk
    go_enter Tryz.func53, Tryz.ntmps53
    go_wp2_with fail
    go_loopw [5] (fun i wr => ∃ k : Nat, k ≤ d.keys.length ∧ i = .int .i64 k ∧ kcmp d.keys d'.keys = kcmp (d.keys.drop k) (d'.keys.drop k) ∧
      Below (w.heap.size + 2) ((w.alloc (.cells #[.int .i64 d.kind, .int .i64 d.num, .string d.str, .slice A3 d.keys.length c3, .slice A4 d.kids.length c4] 29)).alloc
        (.cells #[.int .i64 d'.kind, .int .i64 d'.num, .string d'.str, .slice A3' d'.keys.length c3', .slice A4' d'.kids.length c4'] 29)) wr) (fun i _ => d.keys.length - (intOf i).toNat)
    case atStart => exact ⟨0, Nat.zero_le _, rfl, rfl, Below.refl _ _⟩
    case round =>
      obtain ⟨k, hk0, rfl, hrest, hb⟩ := hrel
      have HR := Lib.hid hrest; clear hrest
      have hsz := hb.size
      simp only [World.size_alloc] at hsz
      obtain ⟨⟨gb3, gb4⟩, gc3, gc4⟩ := box2_cell hb
      have HB := Lib.hid hb; clear hb
      by_cases hlt : k < d.keys.length
      · have hlt' : k < d'.keys.length := by have := HKK.out; omega
        obtain ⟨_, h3⟩ := HK3.out
        obtain ⟨b, off, rfl, hab, hcx⟩ := h3 (by omega)
        obtain ⟨_, h3'⟩ := HK3'.out
        obtain ⟨b', off', rfl, hab', hcy⟩ := h3' (by omega)
        have gx := (box2_old HB.out (by omega)).trans (hcx k hlt)
        have gy := (box2_old HB.out (by omega)).trans (hcy k hlt')
        clear h3 h3' hcx hcy
        by_cases hs : scmp d.keys[k] d'.keys[k] = 0
        · have ES := Lib.hid (kcmp_same hlt hlt' hs)
          have hs' := scmp_eq hs
          clear hs
          go_wp2_with fail
          go_quiet (fail)
          go_wp2_with fail
          go_roundw
          case rel => exact ⟨k + 1, by omega, by go_num, by rw [HR.out, ES.out], rbelow_dr HB.out _⟩
          case measure => simp [intOf]; omega
        · have ES := Lib.hid (kcmp_apart hlt hlt' hs)
          have hne : kcmp d.keys d'.keys ≠ 0 := by rw [HR.out, ES.out]; exact hs
          have E := Lib.hid (cmp5 E0.out E1.out E2.out E3.out hne)
          have EQ := Lib.hid (show D.cmp d d' = if Op.bytesLess d.keys[k].toList d'.keys[k].toList = true then -1 else 1 by rw [E.out, HR.out, ES.out]; exact scmp_if hs)
          have hs' := scmp_ne hs
          clear hs hne
          go_wp2_with fail
          go_quiet (fail)
          go_wp2_with fail
          go_quiet ((go_at_call 86; exact (order_as (x := D.cmp d d') EQ.out).mono fun e w'' ⟨he, hw⟩ => ⟨he, _, hw⟩))
          go_wp2_with fail
          go_ret
          exact ⟨rfl, rbelow_dr (rbelow_dr (box2_below HB.out) _) _⟩
      · have E4 := Lib.hid (show kcmp d.keys d'.keys = 0 by rw [HR.out]; exact kcmp_end (by omega) (by have := HKK.out; omega))
        by_cases e5 : (d.kids.length : Int) = d'.kids.length
        case neg =>
          have E := Lib.hid (cmp6 E0.out E1.out E2.out E3.out E4.out e5)
          have e5' : ((d.kids.length : Int) != (d'.kids.length : Int)) = true := by simpa using fun h => e5 (by omega)
          clear e5
          go_wp2_with fail
          refine (order_as (x := D.cmp d d') (by first | exact E.out | (rw [E.out]; simp))).mono ?_
          rintro e w' ⟨rfl, rfl⟩
          go_wp2_with fail
          go_ret
          exact ⟨rfl, box2_below HB.out⟩
        have E5 := Lib.hid e5
        have e5' : ((d.kids.length : Int) != (d'.kids.length : Int)) = false := by simp; omega
        have HLL := Lib.hid (show d.kids.length = d'.kids.length by omega)
        have E := Lib.hid (cmp7 E0.out E1.out E2.out E3.out E4.out e5)
        clear e5
        have HB0 := HB
        go_wp2_with fail
        go_loopw [6] (fun i wr => ∃ k : Nat, k ≤ d.kids.length ∧ i = .int .i64 k ∧ D.cmps d.kids d'.kids = D.cmps (d.kids.drop k) (d'.kids.drop k) ∧
          Below (w.heap.size + 2) ((w.alloc (.cells #[.int .i64 d.kind, .int .i64 d.num, .string d.str, .slice A3 d.keys.length c3, .slice A4 d.kids.length c4] 29)).alloc
            (.cells #[.int .i64 d'.kind, .int .i64 d'.num, .string d'.str, .slice A3' d'.keys.length c3', .slice A4' d'.kids.length c4'] 29)) wr) (fun i _ => d.kids.length - (intOf i).toNat)
        case atStart => exact ⟨0, Nat.zero_le _, rfl, rfl, HB0.out⟩
        case round =>
          clear gb3 gb4 gc3 gc4 HR
          obtain ⟨k, hk0, rfl, hrest, hb⟩ := hrel
          have HR := Lib.hid hrest; clear hrest
          have hsz := hb.size
          simp only [World.size_alloc] at hsz
          obtain ⟨⟨gb3, gb4⟩, gc3, gc4⟩ := box2_cell hb
          have HB := Lib.hid hb; clear hb
          by_cases hlt : k < d.kids.length
          · have hlt' : k < d'.kids.length := by have := HLL.out; omega
            obtain ⟨_, _, h4⟩ := H4.out
            obtain ⟨b, off, rfl, hab, hkids⟩ := h4 (by omega)
            obtain ⟨_, _, h4'⟩ := H4'.out
            obtain ⟨b', off', rfl, hab', hkids'⟩ := h4' (by omega)
            have hcells := KidsIn.at_ hkids k hlt
            rw [Nat.zero_add] at hcells
            obtain ⟨x0, x1, x2, x3, x4, g0, g1, g2, g3, g4, hdk⟩ := hcells
            have hcells' := KidsIn.at_ hkids' k hlt'
            rw [Nat.zero_add] at hcells'
            obtain ⟨y0, y1, y2, y3, y4, g0', g1', g2', g3', g4', hdk'⟩ := hcells'
            rw [← box2_old HB.out (by omega)] at g0 g1 g2 g3 g4 g0' g1' g2' g3' g4'
            obtain ⟨X3, f3, X4, f4, rfl, rfl, rfl, rfl, rfl⟩ := hdk.forms
            obtain ⟨Y3, f3', Y4, f4', rfl, rfl, rfl, rfl, rfl⟩ := hdk'.forms
            have HK := Lib.hid hdk; have HK' := Lib.hid hdk'
            clear hdk hdk' hkids hkids' h4 h4'
            go_wp2_with fail
            refine wp_region_still_tail 10 (by kernel_rfl) (by kernel_rfl) ?_
            change wpStill _ _ (World.drew _) (fun a' => wpList _ _ _ _ a' (World.drew _)) _ _
            simp only [List.take_succ_cons, List.take_zero, List.drop_succ_cons, List.drop_zero]
            repeat still_step
            refine wpStill_nil ?_
            go_wp2_with fail
            have hk1 : (d.kids[k]).depth ≤ m := by have := D.depth_kid (d := d) hlt; omega
            have bw : Below B w wr.drew := ((box2_below HB.out).mono (by omega)).drew
            refine (IH.out d.kids[k] d'.kids[k] _ _ _ _ _ _ _ _ _ _ _ B hk1 (HF.out.kid hlt) (HF'.out.kid hlt') (by simp; omega) (HK.out.below bw) (HK'.out.below bw)).mono ?_
            rintro e w2 ⟨rfl, hb2⟩
            have HB3 := Lib.hid (HB.out.drew.trans (hb2.mono (by simp; omega)))
            clear hb2 bw hk1
            by_cases hz : D.cmp d.kids[k] d'.kids[k] = 0
            · have ES := Lib.hid (cmps_same hlt hlt' hz)
              go_wp2_with fail
              go_roundw
              case rel => exact ⟨k + 1, by omega, by go_num, by rw [HR.out, ES.out], HB3.out⟩
              case measure => simp [intOf]; omega
            · have ES := Lib.hid (cmps_apart hlt hlt' hz)
              have hz2 : (D.cmp d.kids[k] d'.kids[k] != 0) = true := by simp [hz]
              go_wp2_with fail
              go_ret
              exact ⟨ret_int (by rw [E.out, HR.out, ES.out]), box2_below HB3.out⟩
          · have E6 := Lib.hid (cmps_end (xs := d.kids) (ys := d'.kids) (k := k) (by omega) (by have := HLL.out; omega))
            go_wp2_with fail
            go_ret
            exact ⟨ret_int (by rw [E.out, HR.out, E6.out]), box2_below HB.out⟩
end Go.Proofs.YteecdmceleanjaaGreatDoor
