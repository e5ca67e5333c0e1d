/-
  
-/
import Derived.Test.YtgklnafliaplkaaGreatDoorProg
import Derived.Test.YtgklnafliaplkaaGreatDoorB01
import Derived.Lib.Hide
namespace Go.Proofs.YtgklnafliaplkaaGreatDoor
open Go.RowKit

set_option maxHeartbeats 400000 in
theorem size_any (m : Nat) : ∀ (d : D) (v0 v1 v2 v3 v4 : Value) (w : World) (B : Nat), d.depth ≤ m → d.size ≤ 10000 → B ≤ w.heap.size → DocIn w B d v0 v1 v2 v3 v4 →
    Calls Tryz.prog 20 #[.agg #[v0, v1, v2, v3, v4]] w fun e w' => e = .returned (.int .i64 d.size) ∧ Below w.heap.size w w' := by
  induction m with
  | zero => intro d; obtain ⟨_, _, _, _, _⟩ := d; intro _ _ _ _ _ _ _ h; simp [D.depth] at h
  | succ m ih =>
    intro d v0 v1 v2 v3 v4 w B hm hs hB hd
    obtain ⟨kind, num, str, keys, kids⟩ := d
    simp only [DocIn] at hd
    obtain ⟨rfl, rfl, rfl, ⟨A3, c3, rfl, hk1, hk2⟩, A4, c4, rfl, hl1, hl2⟩ := hd
    have H4 := Lib.hid hl2; clear hl2 hk2 hk1
    have IH := Lib.hid ih; clear ih
    have hlen : kids.length ≤ D.sizes kids := D.len_le_sizes kids
    simp only [D.size] at hs
    go_enter Tryz.func20, Tryz.ntmps20
    go_wp2_with fail
    go_loopw [3, 9] (fun t i wr => ∃ k : Nat, k ≤ kids.length ∧ i = .int .i64 k ∧ t = .int .i64 ((D.sizes (kids.take k) + 1 : Nat) : Int) ∧ Below w.heap.size w wr) (fun _ i _ => kids.length - (intOf i).toNat)
    case atStart => exact ⟨0, Nat.zero_le _, rfl, rfl, (Below.refl _ _).alloc (Nat.le_refl _) _⟩
    case round =>
      obtain ⟨k, hk, rfl, rfl, hb⟩ := hrel
      by_cases hlt : k < kids.length
      · obtain ⟨b, off, rfl, hab, hkids⟩ := H4.out (by omega)
        have hcells := KidsIn.at_ hkids k hlt
        rw [Nat.zero_add] at hcells
        obtain ⟨u0, u1, u2, u3, u4, g0, g1, g2, g3, g4, hdk⟩ := hcells
        have bc : ∀ n, wr.cell? ⟨b, n, none⟩ = w.cell? ⟨b, n, none⟩ := fun n => hb.cell (p := ⟨b, n, none⟩) (by show b < _; omega)
        rw [← bc] at g0 g1 g2 g3 g4
        clear bc hkids
        obtain ⟨A5, c5, A6, c6, rfl, rfl, rfl, rfl, rfl⟩ := hdk.forms
        have HK := Lib.hid hdk; clear hdk
        have hts := D.sizes_take_succ kids k hlt
        have htl : D.sizes (kids.take k) + kids[k].size ≤ D.sizes kids := by rw [← hts]; exact D.sizes_take_le kids (k + 1)
        have HT := Lib.hid hts; clear hts
        go_wp2_with fail
        refine (IH.out kids[k] _ _ _ _ _ _ B (by have := D.depth_kid (d := .mk kind num str keys kids) hlt; simp only [D.kids] at this; omega) (by omega) ?_ ?_).mono ?_
        · have := hb.size; simp; omega
        · exact DocIn.keep (Nat.le_refl _) (fun p hp => ((World.cell?_alloc_lt wr _ p (by have := hb.size; omega)).trans (hb.cell (by omega)))) HK.out
        rintro e w1 ⟨rfl, hb1⟩
        go_wp2_with fail
        go_roundw
        case rel => exact ⟨k + 1, by omega, by go_num, by rw [HT.out]; go_num, (hb.alloc (by have := hb.size; omega) _).trans (hb1.mono (by have := hb.size; simp; omega))⟩
        case measure => simp [intOf]; omega
      · go_wp2_with fail
        go_ret
        exact ⟨by rw [List.take_of_length_le (by omega)]; rfl, hb⟩
end Go.Proofs.YtgklnafliaplkaaGreatDoor
