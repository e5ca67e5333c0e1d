/-
  
  (out of Same: what not every seat has)
-/
import Derived.Test.YtdcempejdggkpaaGreatDoorB10
import Derived.Test.YtdcempejdggkpaaGreatDoorB06
namespace Go.Proofs.YtdcempejdggkpaaGreatDoor
open Go.RowKit

theorem compare_v {d d' : D} {v u : Value} {w : World} {B : Nat} (hf : d.Fit) (hf' : d'.Fit) (hB : B ≤ w.heap.size) (hd : DocV w B d v) (hd' : DocV w B d' u) :
    Calls Tryz.prog 22 #[v, u] w fun e w' => e = .returned (.int .i64 (D.cmp d d')) ∧ Below w.heap.size w w' := by
  obtain ⟨v0, v1, v2, v3, v4, rfl, hd⟩ := hd
  obtain ⟨u0, u1, u2, u3, u4, rfl, hd'⟩ := hd'
  exact compare_any d.depth d d' v0 v1 v2 v3 v4 u0 u1 u2 u3 u4 w B (Nat.le_refl _) hf hf' hB hd hd'

set_option maxHeartbeats 400000 in
theorem same_v {d d' : D} {v u : Value} {w : World} {B : Nat} (hf : d.Fit) (hf' : d'.Fit) (hB : B ≤ w.heap.size) (hd : DocV w B d v) (hd' : DocV w B d' u) :
    Calls Tryz.prog 20 #[v, u] w fun e w' => e = .returned (.bool (D.same d d')) ∧ Below w.heap.size w w' := by
  have HV := Lib.hid hd; have HU := Lib.hid hd'
  obtain ⟨v0, v1, v2, v3, v4, rfl, hd⟩ := hd
  obtain ⟨u0, u1, u2, u3, u4, rfl, hd'⟩ := hd'
  obtain ⟨A3, c3, A4, c4, rfl, rfl, rfl, rfl, rfl⟩ := hd.forms
  obtain ⟨A3', c3', A4', c4', rfl, rfl, rfl, rfl, rfl⟩ := hd'.forms
  clear hd hd'
  go_enter Tryz.func20, Tryz.ntmps20
  go_wp2_with fail
  refine (compare_v hf hf' (B := B) (by simp; omega) (HV.out.keep (Nat.le_refl _) fun p hp => (World.cell?_alloc_lt (w.alloc _) _ p (by simp; omega)).trans (World.cell?_alloc_lt w _ p (by omega))) (HU.out.keep (Nat.le_refl _) fun p hp => (World.cell?_alloc_lt (w.alloc _) _ p (by simp; omega)).trans (World.cell?_alloc_lt w _ p (by omega)))).mono ?_
  rintro e w1 ⟨rfl, hb1⟩
  go_wp2_with fail
  all_goals (go_ret; refine ⟨ret_bool ?_, (((Below.refl _ _).alloc (Nat.le_refl _) _).alloc (by simp) _).trans (hb1.mono (by simp; omega))⟩)
  all_goals (rw [Bool.eq_iff_iff]; simp [D.same])

theorem D.depths_take_succ (l : List D) (k : Nat) (h : k < l.length) : D.depths (l.take (k + 1)) = max (D.depths (l.take k)) (l[k]).depth := by
  have app : ∀ a b : List D, D.depths (a ++ b) = max (D.depths a) (D.depths b) := by
    intro a
    induction a with
    | nil => intro b; simp [D.depths]
    | cons x a ih => intro b; simp only [List.cons_append, D.depths, ih]; omega
  rw [List.take_succ_eq_append_getElem h, app]; simp [D.depths]
theorem D.depths_take_le (l : List D) (k : Nat) : D.depths (l.take k) ≤ D.depths l := by
  induction l generalizing k with
  | nil => simp [D.depths]
  | cons x l ih =>
    cases k with
    | zero => simp [D.depths]
    | succ k => simp only [List.take_succ_cons, D.depths]; have := ih k; omega
end Go.Proofs.YtdcempejdggkpaaGreatDoor
namespace Go.Proofs.YtdcempejdggkpaaGreatDoor
open Go.RowKit
set_option maxHeartbeats 400000 in
theorem depth_any (m : Nat) : ∀ (d : D) (v0 v1 v2 v3 v4 : Value) (w : World) (B : Nat), d.depth ≤ m → d.depth ≤ 10000 → d.Fit → B ≤ w.heap.size → DocIn w B d v0 v1 v2 v3 v4 →
    Calls Tryz.prog 19 #[.agg #[v0, v1, v2, v3, v4]] w fun e w' => e = .returned (.int .i64 d.depth) ∧ Below w.heap.size w w' := by
  induction m with
  | zero => intro d; obtain ⟨_, _, _, _, _⟩ := d; intro _ _ _ _ _ _ _ h; simp [D.depth] at h
  | succ m ih =>
    intro d v0 v1 v2 v3 v4 w B hm hs hf hB hd
    have HF := Lib.hid hf
    have hlen := hf.kids
    clear hf
    obtain ⟨A3, c3, A4, c4, rfl, rfl, rfl, rfl, rfl⟩ := hd.forms
    have H4 := Lib.hid hd.kids_; clear hd
    have IH := Lib.hid ih; clear ih
    have hde : d.depth = D.depths d.kids + 1 := by obtain ⟨_, _, _, _, _⟩ := d; simp [D.depth, D.kids]
    rw [hde]
    have hds : D.depths d.kids ≤ 10000 := by omega
    have HDE := Lib.hid hde; clear hde
    go_enter Tryz.func19, Tryz.ntmps19
    go_wp2_with fail
    go_loopw [3, 9] (fun t i wr => ∃ k : Nat, k ≤ d.kids.length ∧ i = .int .i64 k ∧ t = .int .i64 ((D.depths (d.kids.take k) : Nat) : Int) ∧ Below w.heap.size w wr) (fun _ i _ => d.kids.length - (intOf i).toNat)
    case atStart => exact ⟨0, Nat.zero_le _, rfl, rfl, (Below.refl _ _).alloc (Nat.le_refl _) _⟩
    case round =>
      obtain ⟨k, hk, rfl, rfl, hb⟩ := hrel
      by_cases hlt : k < d.kids.length
      · obtain ⟨_, _, h4⟩ := H4.out
        obtain ⟨b, off, rfl, hab, hkids⟩ := h4 (by omega)
        have hcells := KidsIn.at_ hkids k hlt
        rw [Nat.zero_add] at hcells
        obtain ⟨u0, u1, u2, u3, u4, g0, g1, g2, g3, g4, hdk⟩ := hcells
        have bc : ∀ n, wr.cell? ⟨b, n, none⟩ = w.cell? ⟨b, n, none⟩ := fun n => hb.cell (p := ⟨b, n, none⟩) (by show b < _; omega)
        rw [← bc] at g0 g1 g2 g3 g4
        clear bc hkids h4
        obtain ⟨A5, c5, A6, c6, rfl, rfl, rfl, rfl, rfl⟩ := hdk.forms
        have HK := Lib.hid hdk; clear hdk
        have HT := Lib.hid (D.depths_take_succ d.kids k hlt)
        have htl : D.depths (d.kids.take k) ≤ D.depths d.kids := D.depths_take_le _ _
        have hkd : (d.kids[k]).depth ≤ m := by have := D.depth_kid (d := d) hlt; omega
        have hkd2 : (d.kids[k]).depth ≤ 10000 := by have := D.depth_kid (d := d) hlt; omega
        go_wp2_with fail
        refine (IH.out d.kids[k] _ _ _ _ _ _ B hkd hkd2 (HF.out.kid hlt) ?_ ?_).mono ?_
        · have := hb.size; simp; omega
        · exact DocIn.keep (Nat.le_refl _) (fun p hp => ((World.cell?_alloc_lt wr _ p (by have := hb.size; omega)).trans (hb.cell (by omega)))) HK.out
        rintro e w1 ⟨rfl, hb1⟩
        go_wp2_with fail
        all_goals
          go_roundw
          case rel => exact ⟨k + 1, by omega, by go_num, by rw [HT.out]; first | rfl | go_num | (congr 1; omega), (hb.alloc (by have := hb.size; omega) _).trans (hb1.mono (by have := hb.size; simp; omega))⟩
          case measure => simp [intOf]; omega
      · have htk : d.kids.take k = d.kids := List.take_of_length_le (by omega)
        rw [htk]
        go_wp2_with fail
        go_ret
        exact ⟨by rfl, hb⟩
theorem depth_v {d : D} {v : Value} {w : World} {B : Nat} (hs : d.depth ≤ 10000) (hf : d.Fit) (hB : B ≤ w.heap.size) (hd : DocV w B d v) :
    Calls Tryz.prog 19 #[v] w fun e w' => e = .returned (.int .i64 d.depth) ∧ Below w.heap.size w w' := by
  obtain ⟨v0, v1, v2, v3, v4, rfl, hd⟩ := hd
  exact depth_any d.depth d v0 v1 v2 v3 v4 w B (Nat.le_refl _) hs hf hB hd
end Go.Proofs.YtdcempejdggkpaaGreatDoor
