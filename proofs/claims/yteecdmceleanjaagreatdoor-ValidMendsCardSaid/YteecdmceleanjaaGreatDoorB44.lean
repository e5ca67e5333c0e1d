/-
  The document's own Size, Depth and Name: as the program's.
-/
import Derived.Test.YteecdmceleanjaaGreatDoorB25
namespace Go.Proofs.YteecdmceleanjaaGreatDoor
open Go.RowKit

theorem box_below {w wr : World} {o : Obj} (h : Below (w.heap.size + 1) (w.alloc o) wr) : Below w.heap.size w wr := ((Below.refl _ _).alloc (Nat.le_refl _) _).trans (h.mono (by omega))
theorem box_cell {w wr : World} {v0 v1 v2 v3 v4 : Value} (h : Below (w.heap.size + 1) (w.alloc (.cells #[v0, v1, v2, v3, v4] 29)) wr) :
    wr.cell? ⟨w.heap.size, 0, none⟩ = some v0 ∧ wr.cell? ⟨w.heap.size, 1, none⟩ = some v1 ∧ wr.cell? ⟨w.heap.size, 2, none⟩ = some v2 ∧ wr.cell? ⟨w.heap.size, 3, none⟩ = some v3 ∧ wr.cell? ⟨w.heap.size, 4, none⟩ = some v4 := by
  refine ⟨?_, ?_, ?_, ?_, ?_⟩ <;> exact (h.cell (p := ⟨w.heap.size, _, none⟩) (by show w.heap.size < _; omega)).trans (World.cell?_alloc_at _ _ _ _ rfl)
theorem box_old {w wr : World} {o : Obj} {b n : Nat} (h : Below (w.heap.size + 1) (w.alloc o) wr) (hb : b < w.heap.size) : wr.cell? ⟨b, n, none⟩ = w.cell? ⟨b, n, none⟩ :=
  (h.cell (p := ⟨b, n, none⟩) (by show b < _; omega)).trans (World.cell?_alloc_lt w _ ⟨b, n, none⟩ (by show b < _; omega))

set_option maxHeartbeats 800000 in
theorem rsize_any (m : Nat) : ∀ (d : D) (v0 v1 v2 v3 v4 : Value) (w : World) (B : Nat), d.depth ≤ m → d.size ≤ 10000 → B ≤ w.heap.size → DocIn w B d v0 v1 v2 v3 v4 →
    Calls Tryz.prog 111 #[.agg #[v0, v1, v2, v3, v4]] w fun e w' => e = .returned (.int .i64 d.size) ∧ Below w.heap.size w w' := by
  induction m with
  | zero => intro d; obtain ⟨_, _, _, _, _⟩ := d; intro _ _ _ _ _ _ _ h; simp [D.depth] at h
  | succ m ih =>
    intro d v0 v1 v2 v3 v4 w B hm hs hB hd
    obtain ⟨A3, c3, A4, c4, rfl, rfl, rfl, rfl, rfl⟩ := hd.forms
    have H4 := Lib.hid hd.kids_; clear hd
    have IH := Lib.hid ih; clear ih
    have hlen := D.len_le_sizes d.kids
    have HSE := Lib.hid (D.size_eq d)
    have hsz := HSE.out
    go_enter Tryz.func111, Tryz.ntmps111
    go_wp2_with fail
    go_loopw [3, 4] (fun t i wr => ∃ k : Nat, k ≤ d.kids.length ∧ i = .int .i64 k ∧ t = .int .i64 ((D.sizes (d.kids.take k) + 1 : Nat) : Int) ∧ Below (w.heap.size + 1) (w.alloc (.cells #[.int .i64 d.kind, .int .i64 d.num, .string d.str, .slice A3 d.keys.length c3, .slice A4 d.kids.length c4] 29)) wr) (fun _ i _ => d.kids.length - (intOf i).toNat)
    case atStart => exact ⟨0, Nat.zero_le _, rfl, rfl, Below.refl _ _⟩
    case round =>
      obtain ⟨k, hk, rfl, rfl, hb⟩ := hrel
      have hz := hb.size
      simp only [World.size_alloc] at hz
      obtain ⟨gb0, gb1, gb2, gb3, gb4⟩ := box_cell hb
      by_cases hlt : k < d.kids.length
      · obtain ⟨_, _, h4⟩ := H4.out
        obtain ⟨b, off, rfl, hab, hkids⟩ := h4 (by omega)
        have hcells := KidsIn.at_ hkids k hlt
        rw [Nat.zero_add] at hcells
        obtain ⟨u0, u1, u2, u3, u4, x0, x1, x2, x3, x4, hdk⟩ := hcells
        rw [← box_old hb (by omega)] at x0 x1 x2 x3 x4
        clear hkids h4
        obtain ⟨A5, c5, A6, c6, rfl, rfl, rfl, rfl, rfl⟩ := hdk.forms
        have HK := Lib.hid hdk; clear hdk
        have HT := Lib.hid (D.sizes_take_succ d.kids k hlt)
        have htl : D.sizes (d.kids.take k) + (d.kids[k]).size ≤ D.sizes d.kids := by rw [← HT.out]; exact D.sizes_take_le d.kids (k + 1)
        have HB := Lib.hid hb
        clear hb
        go_wp2_with fail
        refine (IH.out d.kids[k] _ _ _ _ _ _ B (by have := D.depth_kid (d := d) hlt; omega) (by omega) (by omega) (HK.out.keep (Nat.le_refl _) fun p hp => (HB.out.cell (p := p) (by omega)).trans (World.cell?_alloc_lt w _ p (by omega)))).mono ?_
        rintro e w1 ⟨rfl, hb1⟩
        have HB1 := Lib.hid (HB.out.trans (hb1.mono (by omega)))
        clear hb1
        go_wp2_with fail
        go_roundw
        case rel => exact ⟨k + 1, by omega, by go_num, by rw [HT.out]; go_num, HB1.out⟩
        case measure => simp [intOf]; omega
      · have htk : D.sizes (d.kids.take k) + 1 = d.size := by rw [List.take_of_length_le (by omega)]; omega
        go_wp2_with fail
        go_ret
        exact ⟨ret_int (by rw [htk]), box_below hb⟩

set_option maxHeartbeats 800000 in
theorem rdepth_any (m : Nat) : ∀ (d : D) (v0 v1 v2 v3 v4 : Value) (w : World) (B : Nat), d.depth ≤ m → d.depth ≤ 10000 → d.kids.length ≤ 10000 → d.Fit → B ≤ w.heap.size → DocIn w B d v0 v1 v2 v3 v4 →
    Calls Tryz.prog 110 #[.agg #[v0, v1, v2, v3, v4]] w fun e w' => e = .returned (.int .i64 d.depth) ∧ Below w.heap.size w w' := by
  induction m with
  | zero => intro d; obtain ⟨_, _, _, _, _⟩ := d; intro _ _ _ _ _ _ _ h; simp [D.depth] at h
  | succ m ih =>
    intro d v0 v1 v2 v3 v4 w B hm hs hlen hf hB hd
    have HF := Lib.hid hf; clear hf
    obtain ⟨A3, c3, A4, c4, rfl, rfl, rfl, rfl, rfl⟩ := hd.forms
    have H4 := Lib.hid hd.kids_; clear hd
    have IH := Lib.hid ih; clear ih
    have HSE := Lib.hid (D.depth_eq d)
    have hsz := HSE.out
    go_enter Tryz.func110, Tryz.ntmps110
    go_wp2_with fail
    go_loopw [3, 4] (fun t i wr => ∃ k : Nat, k ≤ d.kids.length ∧ i = .int .i64 k ∧ t = .int .i64 ((D.depths (d.kids.take k) : Nat) : Int) ∧ Below (w.heap.size + 1) (w.alloc (.cells #[.int .i64 d.kind, .int .i64 d.num, .string d.str, .slice A3 d.keys.length c3, .slice A4 d.kids.length c4] 29)) wr) (fun _ i _ => d.kids.length - (intOf i).toNat)
    case atStart => exact ⟨0, Nat.zero_le _, rfl, by simp [D.depths], Below.refl _ _⟩
    case round =>
      obtain ⟨k, hk, rfl, rfl, hb⟩ := hrel
      have hz := hb.size
      simp only [World.size_alloc] at hz
      obtain ⟨gb0, gb1, gb2, gb3, gb4⟩ := box_cell hb
      by_cases hlt : k < d.kids.length
      · obtain ⟨_, _, h4⟩ := H4.out
        obtain ⟨b, off, rfl, hab, hkids⟩ := h4 (by omega)
        have hcells := KidsIn.at_ hkids k hlt
        rw [Nat.zero_add] at hcells
        obtain ⟨u0, u1, u2, u3, u4, x0, x1, x2, x3, x4, hdk⟩ := hcells
        rw [← box_old hb (by omega)] at x0 x1 x2 x3 x4
        clear hkids h4
        obtain ⟨A5, c5, A6, c6, rfl, rfl, rfl, rfl, rfl⟩ := hdk.forms
        have HK := Lib.hid hdk; clear hdk
        have HT := Lib.hid (D.depths_take_succ d.kids k hlt)
        have htl : max (D.depths (d.kids.take k)) (d.kids[k]).depth ≤ D.depths d.kids := by rw [← HT.out]; exact D.depths_take_le d.kids (k + 1)
        have HB := Lib.hid hb
        clear hb
        go_wp2_with fail
        refine (IH.out d.kids[k] _ _ _ _ _ _ B (by have := D.depth_kid (d := d) hlt; omega) (by omega) (HF.out.kid hlt).kids (HF.out.kid hlt) (by omega) (HK.out.keep (Nat.le_refl _) fun p hp => (HB.out.cell (p := p) (by omega)).trans (World.cell?_alloc_lt w _ p (by omega)))).mono ?_
        rintro e w1 ⟨rfl, hb1⟩
        have HB1 := Lib.hid (HB.out.trans (hb1.mono (by omega)))
        clear hb1
        go_wp2_with fail
        all_goals
          go_roundw
          case rel => exact ⟨k + 1, by omega, by go_num, by rw [HT.out]; first | rfl | go_num | (congr 1; omega), HB1.out⟩
          case measure => simp [intOf]; omega
      · have htk : D.depths (d.kids.take k) + 1 = d.depth := by rw [List.take_of_length_le (by omega)]; omega
        go_wp2_with fail
        go_ret
        exact ⟨ret_int (by omega), box_below hb⟩

set_option maxHeartbeats 1600000 in
theorem rname_any (s : ByteArray) (w : World) : Calls Tryz.prog 138 #[.string s] w fun e w' => e = .returned (.bool (nameB s)) ∧ w = w' := by
  by_cases hl : 16 < s.size
  · have E := Lib.hid (nameB_long hl)
    go_enter Tryz.func138, Tryz.ntmps138
    go_wp2_with fail
    all_goals (go_ret; exact ⟨ret_bool E.out.symm, rfl⟩)
  rcases Nat.eq_zero_or_pos s.size with h0 | h0
  · have E := Lib.hid (nameB_short h0)
    go_enter Tryz.func138, Tryz.ntmps138
    go_wp2_with fail
    all_goals (go_ret; exact ⟨ret_bool E.out.symm, rfl⟩)
  go_enter Tryz.func138, Tryz.ntmps138
  go_wp2_with fail
  go_loop [3] (fun i => ∃ k : Nat, k ≤ s.size ∧ i = .int .i64 k ∧ ∀ (j : Nat) (h : j < s.size), j < k → okAt j s[j] = true) (fun i => s.size - (intOf i).toNat)
  case atStart => exact ⟨0, Nat.zero_le _, rfl, fun j h hj => absurd hj (by omega)⟩
  case round =>
    obtain ⟨k, hk2, rfl, hall⟩ := hrel
    have HA := Lib.hid hall; clear hall
    by_cases hlt : k < s.size
    · have hkn : (0 : Int) ≤ (k : Int) := by omega
      go_wp2_with fail
      all_goals first
        | (go_ret; exact ⟨ret_bool (nameB_bad (s := s) k hlt (by simp [okAt, smallB, digitB] at *; omega)).symm, rfl⟩)
        | (go_round
           case rel => exact ⟨k + 1, by omega, by go_num, fun j h hj => by
             rcases Nat.lt_or_ge j k with hjk | hjk
             · exact HA.out j h hjk
             · obtain rfl : j = k := by omega
               simp [okAt, smallB, digitB] at *; omega⟩
           case measure => simp [intOf]; omega)
    · have E := Lib.hid (nameB_true (s := s) (by omega) (by omega) (fun j h => HA.out j h (by omega)))
      go_wp2_with fail
      go_ret
      exact ⟨ret_bool E.out.symm, rfl⟩
theorem order_any (b : Bool) (w : World) : Calls Tryz.prog 86 #[.bool b] w fun e w' => e = .returned (.int .i64 (if b = true then -1 else 1)) ∧ w' = w := by
  cases b <;> (go_enter Tryz.func86, Tryz.ntmps86; go_wp2_with fail; go_ret; exact ⟨rfl, rfl⟩)
end Go.Proofs.YteecdmceleanjaaGreatDoor
