/-
  The document's own 'part': all kinds.
-/
import Derived.Test.YteecdmceleanjaaGreatDoorB46
namespace Go.Proofs.YteecdmceleanjaaGreatDoor
open Go.RowKit

set_option maxHeartbeats 8000000 in
set_option maxRecDepth 100000 in
theorem part_list (m : Nat) (str : ByteArray) (kids : List D) (A3 A4 : Option Addr) (c3 c4 : Nat) (w : World) (B : Nat)
    (IH : Hid (∀ (d : D) (v0 v1 v2 v3 v4 : Value) (w : World) (B : Nat), d.depth ≤ m → d.Fit → B ≤ w.heap.size → DocIn w B d v0 v1 v2 v3 v4 →
    Calls Tryz.prog 112 #[.agg #[v0, v1, v2, v3, v4]] w fun e w' => e = .returned (.bool (partB d)) ∧ Below w.heap.size w w'))
    (HM : Hid (∀ (k : Nat) (h : k < kids.length), (kids[k]).depth ≤ m)) (HF : Hid (D.Fit (.mk 3 0 str [] kids))) (hB : B ≤ w.heap.size) (hdl : kids.length ≤ 10000) (H4 : Hid (True ∧ kids.length ≤ c4 ∧ (0 < kids.length → ∃ b off, A4 = some ⟨b, off, none⟩ ∧ b < B ∧ KidsIn w B b off 0 kids))) (gs : str.size = 0)
    (SND : Hid (soundB (.mk 3 0 str [] kids) = true)) :
    Calls Tryz.prog 112 #[.agg #[.int .i64 3, .int .i64 0, .string str, .slice A3 0 c3, .slice A4 kids.length c4]] w fun e w' => e = .returned (.bool (partB (.mk 3 0 str [] kids))) ∧ Below w.heap.size w w' := by
  have ht := toList_empty gs
  go_enter Tryz.func112, Tryz.ntmps112
  go_wp2_with fail
  go_loopw [3] (fun i wr => i = .int .i64 0 ∧ Below (w.heap.size + 1) (w.alloc (.cells #[.int .i64 3, .int .i64 0, .string str, .slice A3 0 c3, .slice A4 kids.length c4] 29)) wr) (fun i _ => 0)
  case atStart => exact ⟨rfl, Below.refl _ _⟩
  case round =>
    obtain ⟨rfl, hb⟩ := hrel
    have hz := hb.size
    simp only [World.size_alloc] at hz
    obtain ⟨gb0, gb1, gb2, gb3, gb4⟩ := box_cell hb
    have HB0 := Lib.hid hb; clear hb
    go_wp2_with fail
    go_loopw [5] (fun i wr => ∃ k : Nat, k ≤ kids.length ∧ i = .int .i64 k ∧ (∀ (j : Nat) (h : j < kids.length), j < k → partB kids[j] = true) ∧ Below (w.heap.size + 1) (w.alloc (.cells #[.int .i64 3, .int .i64 0, .string str, .slice A3 0 c3, .slice A4 kids.length c4] 29)) wr) (fun i _ => kids.length - (intOf i).toNat)
    case atStart => exact ⟨0, Nat.zero_le _, rfl, fun j _ hj => absurd hj (by omega), HB0.out⟩
    case round =>
      obtain ⟨k, hk, rfl, hall, hb⟩ := hrel
      have HA := Lib.hid hall; clear hall
      have hz := hb.size
      simp only [World.size_alloc] at hz
      obtain ⟨gb0, gb1, gb2, gb3, gb4⟩ := box_cell hb
      have HB := Lib.hid hb; clear hb
      by_cases hlt : k < kids.length
      · obtain ⟨_, _, h4⟩ := H4.out
        obtain ⟨b, off, rfl, hab, hkids⟩ := h4 (by show 0 < kids.length; omega)
        have hcells := KidsIn.at_ hkids k hlt
        rw [Nat.zero_add] at hcells
        obtain ⟨u0, u1, u2, u3, u4, x0, x1, x2, x3, x4, hdk⟩ := hcells
        rw [← box_old HB.out (by omega)] at x0 x1 x2 x3 x4
        clear hkids h4
        obtain ⟨A5, c5, A6, c6, rfl, rfl, rfl, rfl, rfl⟩ := hdk.forms
        have HK := Lib.hid hdk; clear hdk
        go_wp2_with fail
        refine (IH.out kids[k] _ _ _ _ _ _ B (HM.out k hlt) (HF.out.kid (d := .mk 3 0 str [] kids) hlt) (by omega) (HK.out.keep (Nat.le_refl _) fun p hp => (HB.out.cell (p := p) (by omega)).trans (World.cell?_alloc_lt w _ p (by omega)))).mono ?_
        rintro e w2 ⟨rfl, hb2⟩
        have HB2 := Lib.hid (HB.out.trans (hb2.mono (by omega))); clear hb2
        cases hp : partB kids[k] with
        | true =>
          have HP := Lib.hid hp; clear hp
          go_wp2_with fail
          go_roundw
          case rel => exact ⟨k + 1, by omega, by go_num, fun j h hj => by
            rcases Nat.lt_or_ge j k with h1 | h1
            · exact HA.out j h h1
            · obtain rfl : j = k := by omega
              exact HP.out, HB2.out⟩
          case measure => simp [intOf]; omega
        | false =>
          have E := Lib.hid (partB_kid (d := .mk 3 0 str [] kids) k hlt hp); clear hp
          go_wp2_with fail
          go_ret
          exact ⟨ret_bool E.out.symm, box_below HB2.out⟩
      · have E := Lib.hid (partB_all (d := .mk 3 0 str [] kids) SND.out fun i hi => HA.out i hi (by show i < k; have : i < kids.length := hi; omega))
        go_wp2_with fail
        go_ret
        exact ⟨ret_bool E.out.symm, box_below HB.out⟩

set_option maxHeartbeats 8000000 in
set_option maxRecDepth 100000 in
theorem part_int0 (str : ByteArray) (A3 A4 : Option Addr) (c3 c4 : Nat) (w : World)
    (gs : str.size = 0)
    (SND : Hid (soundB (.mk 4 0 str [] []) = true)) :
    Calls Tryz.prog 112 #[.agg #[.int .i64 4, .int .i64 0, .string str, .slice A3 0 c3, .slice A4 0 c4]] w fun e w' => e = .returned (.bool (partB (.mk 4 0 str [] []))) ∧ Below w.heap.size w w' := by
  have ht := toList_empty gs
  go_enter Tryz.func112, Tryz.ntmps112
  go_wp2_with fail
  go_loopw [3] (fun i wr => i = .int .i64 0 ∧ Below (w.heap.size + 1) (w.alloc (.cells #[.int .i64 4, .int .i64 0, .string str, .slice A3 0 c3, .slice A4 0 c4] 29)) wr) (fun i _ => 0)
  case atStart => exact ⟨rfl, Below.refl _ _⟩
  case round =>
    obtain ⟨rfl, hb⟩ := hrel
    have hz := hb.size
    simp only [World.size_alloc] at hz
    obtain ⟨gb0, gb1, gb2, gb3, gb4⟩ := box_cell hb
    have HB0 := Lib.hid hb; clear hb
    go_wp2_with fail
    go_loopw [5] (fun i wr => i = .int .i64 0 ∧ Below (w.heap.size + 1) (w.alloc (.cells #[.int .i64 4, .int .i64 0, .string str, .slice A3 0 c3, .slice A4 0 c4] 29)) wr) (fun i _ => 0)
    case atStart => exact ⟨rfl, HB0.out⟩
    case round =>
      obtain ⟨rfl, hb⟩ := hrel
      obtain ⟨gb0, gb1, gb2, gb3, gb4⟩ := box_cell hb
      have HB := Lib.hid hb; clear hb
      have E := Lib.hid (partB_all (d := (.mk 4 0 str [] [])) SND.out fun i hi => absurd hi (by simp [D.kids]))
      go_wp2_with fail
      go_ret
      exact ⟨ret_bool E.out.symm, box_below HB.out⟩

set_option maxHeartbeats 8000000 in
set_option maxRecDepth 100000 in
theorem part_int (num : Int) (str : ByteArray) (A3 A4 : Option Addr) (c3 c4 : Nat) (w : World)
    (hn : num ≠ 0) (gs : str.size = 0)
    (SND : Hid (soundB (.mk 4 num str [] []) = true)) :
    Calls Tryz.prog 112 #[.agg #[.int .i64 4, .int .i64 num, .string str, .slice A3 0 c3, .slice A4 0 c4]] w fun e w' => e = .returned (.bool (partB (.mk 4 num str [] []))) ∧ Below w.heap.size w w' := by
  have ht := toList_empty gs
  have gn : (num != 0) = true := by simp [hn]
  go_enter Tryz.func112, Tryz.ntmps112
  go_wp2_with fail
  go_loopw [3] (fun i wr => i = .int .i64 0 ∧ Below (w.heap.size + 1) (w.alloc (.cells #[.int .i64 4, .int .i64 num, .string str, .slice A3 0 c3, .slice A4 0 c4] 29)) wr) (fun i _ => 0)
  case atStart => exact ⟨rfl, Below.refl _ _⟩
  case round =>
    obtain ⟨rfl, hb⟩ := hrel
    have hz := hb.size
    simp only [World.size_alloc] at hz
    obtain ⟨gb0, gb1, gb2, gb3, gb4⟩ := box_cell hb
    have HB0 := Lib.hid hb; clear hb
    go_wp2_with fail
    go_loopw [5] (fun i wr => i = .int .i64 0 ∧ Below (w.heap.size + 1) (w.alloc (.cells #[.int .i64 4, .int .i64 num, .string str, .slice A3 0 c3, .slice A4 0 c4] 29)) wr) (fun i _ => 0)
    case atStart => exact ⟨rfl, HB0.out⟩
    case round =>
      obtain ⟨rfl, hb⟩ := hrel
      obtain ⟨gb0, gb1, gb2, gb3, gb4⟩ := box_cell hb
      have HB := Lib.hid hb; clear hb
      have E := Lib.hid (partB_all (d := (.mk 4 num str [] [])) SND.out fun i hi => absurd hi (by simp [D.kids]))
      go_wp2_with fail
      go_ret
      exact ⟨ret_bool E.out.symm, box_below HB.out⟩

set_option maxHeartbeats 8000000 in
set_option maxRecDepth 100000 in
theorem part_no (str : ByteArray) (A3 A4 : Option Addr) (c3 c4 : Nat) (w : World)
    (gs : str.size = 0)
    (SND : Hid (soundB (.mk 5 0 str [] []) = true)) :
    Calls Tryz.prog 112 #[.agg #[.int .i64 5, .int .i64 0, .string str, .slice A3 0 c3, .slice A4 0 c4]] w fun e w' => e = .returned (.bool (partB (.mk 5 0 str [] []))) ∧ Below w.heap.size w w' := by
  have ht := toList_empty gs
  go_enter Tryz.func112, Tryz.ntmps112
  go_wp2_with fail
  go_loopw [3] (fun i wr => i = .int .i64 0 ∧ Below (w.heap.size + 1) (w.alloc (.cells #[.int .i64 5, .int .i64 0, .string str, .slice A3 0 c3, .slice A4 0 c4] 29)) wr) (fun i _ => 0)
  case atStart => exact ⟨rfl, Below.refl _ _⟩
  case round =>
    obtain ⟨rfl, hb⟩ := hrel
    have hz := hb.size
    simp only [World.size_alloc] at hz
    obtain ⟨gb0, gb1, gb2, gb3, gb4⟩ := box_cell hb
    have HB0 := Lib.hid hb; clear hb
    go_wp2_with fail
    go_loopw [5] (fun i wr => i = .int .i64 0 ∧ Below (w.heap.size + 1) (w.alloc (.cells #[.int .i64 5, .int .i64 0, .string str, .slice A3 0 c3, .slice A4 0 c4] 29)) wr) (fun i _ => 0)
    case atStart => exact ⟨rfl, HB0.out⟩
    case round =>
      obtain ⟨rfl, hb⟩ := hrel
      obtain ⟨gb0, gb1, gb2, gb3, gb4⟩ := box_cell hb
      have HB := Lib.hid hb; clear hb
      have E := Lib.hid (partB_all (d := (.mk 5 0 str [] [])) SND.out fun i hi => absurd hi (by simp [D.kids]))
      go_wp2_with fail
      go_ret
      exact ⟨ret_bool E.out.symm, box_below HB.out⟩

set_option maxHeartbeats 8000000 in
set_option maxRecDepth 100000 in
theorem part_yes (str : ByteArray) (A3 A4 : Option Addr) (c3 c4 : Nat) (w : World)
    (gs : str.size = 0)
    (SND : Hid (soundB (.mk 5 1 str [] []) = true)) :
    Calls Tryz.prog 112 #[.agg #[.int .i64 5, .int .i64 1, .string str, .slice A3 0 c3, .slice A4 0 c4]] w fun e w' => e = .returned (.bool (partB (.mk 5 1 str [] []))) ∧ Below w.heap.size w w' := by
  have ht := toList_empty gs
  go_enter Tryz.func112, Tryz.ntmps112
  go_wp2_with fail
  go_loopw [3] (fun i wr => i = .int .i64 0 ∧ Below (w.heap.size + 1) (w.alloc (.cells #[.int .i64 5, .int .i64 1, .string str, .slice A3 0 c3, .slice A4 0 c4] 29)) wr) (fun i _ => 0)
  case atStart => exact ⟨rfl, Below.refl _ _⟩
  case round =>
    obtain ⟨rfl, hb⟩ := hrel
    have hz := hb.size
    simp only [World.size_alloc] at hz
    obtain ⟨gb0, gb1, gb2, gb3, gb4⟩ := box_cell hb
    have HB0 := Lib.hid hb; clear hb
    go_wp2_with fail
    go_loopw [5] (fun i wr => i = .int .i64 0 ∧ Below (w.heap.size + 1) (w.alloc (.cells #[.int .i64 5, .int .i64 1, .string str, .slice A3 0 c3, .slice A4 0 c4] 29)) wr) (fun i _ => 0)
    case atStart => exact ⟨rfl, HB0.out⟩
    case round =>
      obtain ⟨rfl, hb⟩ := hrel
      obtain ⟨gb0, gb1, gb2, gb3, gb4⟩ := box_cell hb
      have HB := Lib.hid hb; clear hb
      have E := Lib.hid (partB_all (d := (.mk 5 1 str [] [])) SND.out fun i hi => absurd hi (by simp [D.kids]))
      go_wp2_with fail
      go_ret
      exact ⟨ret_bool E.out.symm, box_below HB.out⟩

set_option maxHeartbeats 8000000 in
set_option maxRecDepth 100000 in
theorem part_bytes0 (str : ByteArray) (A3 A4 : Option Addr) (c3 c4 : Nat) (w : World)
    (gs : str.size = 0)
    (SND : Hid (soundB (.mk 6 0 str [] []) = true)) :
    Calls Tryz.prog 112 #[.agg #[.int .i64 6, .int .i64 0, .string str, .slice A3 0 c3, .slice A4 0 c4]] w fun e w' => e = .returned (.bool (partB (.mk 6 0 str [] []))) ∧ Below w.heap.size w w' := by
  have ht := toList_empty gs
  go_enter Tryz.func112, Tryz.ntmps112
  go_wp2_with fail
  go_loopw [3] (fun i wr => i = .int .i64 0 ∧ Below (w.heap.size + 1) (w.alloc (.cells #[.int .i64 6, .int .i64 0, .string str, .slice A3 0 c3, .slice A4 0 c4] 29)) wr) (fun i _ => 0)
  case atStart => exact ⟨rfl, Below.refl _ _⟩
  case round =>
    obtain ⟨rfl, hb⟩ := hrel
    have hz := hb.size
    simp only [World.size_alloc] at hz
    obtain ⟨gb0, gb1, gb2, gb3, gb4⟩ := box_cell hb
    have HB0 := Lib.hid hb; clear hb
    go_wp2_with fail
    go_loopw [5] (fun i wr => i = .int .i64 0 ∧ Below (w.heap.size + 1) (w.alloc (.cells #[.int .i64 6, .int .i64 0, .string str, .slice A3 0 c3, .slice A4 0 c4] 29)) wr) (fun i _ => 0)
    case atStart => exact ⟨rfl, HB0.out⟩
    case round =>
      obtain ⟨rfl, hb⟩ := hrel
      obtain ⟨gb0, gb1, gb2, gb3, gb4⟩ := box_cell hb
      have HB := Lib.hid hb; clear hb
      have E := Lib.hid (partB_all (d := (.mk 6 0 str [] [])) SND.out fun i hi => absurd hi (by simp [D.kids]))
      go_wp2_with fail
      go_ret
      exact ⟨ret_bool E.out.symm, box_below HB.out⟩

set_option maxHeartbeats 8000000 in
set_option maxRecDepth 100000 in
theorem part_bytes (str : ByteArray) (A3 A4 : Option Addr) (c3 c4 : Nat) (w : World)
    (gs : 0 < str.size) (hsl : str.size ≤ 256)
    (SND : Hid (soundB (.mk 6 0 str [] []) = true)) :
    Calls Tryz.prog 112 #[.agg #[.int .i64 6, .int .i64 0, .string str, .slice A3 0 c3, .slice A4 0 c4]] w fun e w' => e = .returned (.bool (partB (.mk 6 0 str [] []))) ∧ Below w.heap.size w w' := by
  have ht := toList_some gs
  go_enter Tryz.func112, Tryz.ntmps112
  go_wp2_with fail
  go_loopw [3] (fun i wr => i = .int .i64 0 ∧ Below (w.heap.size + 1) (w.alloc (.cells #[.int .i64 6, .int .i64 0, .string str, .slice A3 0 c3, .slice A4 0 c4] 29)) wr) (fun i _ => 0)
  case atStart => exact ⟨rfl, Below.refl _ _⟩
  case round =>
    obtain ⟨rfl, hb⟩ := hrel
    have hz := hb.size
    simp only [World.size_alloc] at hz
    obtain ⟨gb0, gb1, gb2, gb3, gb4⟩ := box_cell hb
    have HB0 := Lib.hid hb; clear hb
    go_wp2_with fail
    go_loopw [5] (fun i wr => i = .int .i64 0 ∧ Below (w.heap.size + 1) (w.alloc (.cells #[.int .i64 6, .int .i64 0, .string str, .slice A3 0 c3, .slice A4 0 c4] 29)) wr) (fun i _ => 0)
    case atStart => exact ⟨rfl, HB0.out⟩
    case round =>
      obtain ⟨rfl, hb⟩ := hrel
      obtain ⟨gb0, gb1, gb2, gb3, gb4⟩ := box_cell hb
      have HB := Lib.hid hb; clear hb
      have E := Lib.hid (partB_all (d := (.mk 6 0 str [] [])) SND.out fun i hi => absurd hi (by simp [D.kids]))
      go_wp2_with fail
      go_ret
      exact ⟨ret_bool E.out.symm, box_below HB.out⟩

theorem sound_list {k n : Int} {s : ByteArray} {ks : List ByteArray} {l : List D} (h3 : 3 ≤ k) (h6 : k ≤ 6) (hn : n = 0 ∨ k = 4 ∨ (k = 5 ∧ n = 1)) (hs : s.size = 0 ∨ (k = 6 ∧ s.size ≤ 256)) (hk : ks.length = 0) (hl : 3 < k → l.length = 0) : soundB (.mk k n s ks l) = true := by
  have h1 : numB (.mk k n s ks l) = true := by rw [numB_mk]; rcases hn with h | h | ⟨h, h'⟩ <;> simp [*]
  have h2 : strB (.mk k n s ks l) = true := by rw [strB_mk]; rcases hs with h | ⟨h, h'⟩ <;> simp [*]
  have h4 : formB (.mk k n s ks l) = true := by
    have hc : k = 3 ∨ k = 4 ∨ k = 5 ∨ k = 6 := by omega
    have e1 : ks = [] := List.eq_nil_of_length_eq_zero hk
    rcases hc with rfl | rfl | rfl | rfl
    · simp [formB, D.kind, D.keys, e1]
    · have e2 : l = [] := List.eq_nil_of_length_eq_zero (hl (by omega)); simp [formB, D.kind, D.keys, D.kids, e1, e2]
    · have e2 : l = [] := List.eq_nil_of_length_eq_zero (hl (by omega)); simp [formB, D.kind, D.keys, D.kids, e1, e2]
    · have e2 : l = [] := List.eq_nil_of_length_eq_zero (hl (by omega)); simp [formB, D.kind, D.keys, D.kids, e1, e2]
  rw [sound_mk, h1, h2, h4]; rfl
theorem part_any (m : Nat) : ∀ (d : D) (v0 v1 v2 v3 v4 : Value) (w : World) (B : Nat), d.depth ≤ m → d.Fit → B ≤ w.heap.size → DocIn w B d v0 v1 v2 v3 v4 →
    Calls Tryz.prog 112 #[.agg #[v0, v1, v2, v3, v4]] w fun e w' => e = .returned (.bool (partB d)) ∧ Below w.heap.size w w' := by
  induction m with
  | zero => intro d; obtain ⟨_, _, _, _, _⟩ := d; intro _ _ _ _ _ _ _ h; simp [D.depth] at h
  | succ m ih =>
    intro d v0 v1 v2 v3 v4 w B hm hf hB hd
    have hk3 := hd.keys_
    obtain ⟨A3, c3, A4, c4, rfl, rfl, rfl, rfl, rfl⟩ := hd.forms
    have h4 := hd.kids_
    have hkl := hf.keys; have hdl := hf.kids; have hsl := hf.str
    have hdm : ∀ (k : Nat) (h : k < d.kids.length), (d.kids[k]).depth ≤ m := fun k h => by have := D.depth_kid (d := d) h; omega
    clear hd hm
    obtain ⟨kind, num, str, keys, kids⟩ := d
    simp only [D.kind, D.num, D.str, D.keys, D.kids] at *
    by_cases hbad : (kind < 1 ∨ 6 < kind) ∨ (num ≠ 0 ∧ kind ≠ 4 ∧ (kind ≠ 5 ∨ num ≠ 1)) ∨ (0 < str.size ∧ (kind ≠ 6 ∨ 256 < str.size)) ∨ (kind ≤ 2 ∧ keys.length ≠ kids.length) ∨ (2 < kind ∧ 0 < keys.length) ∨ (3 < kind ∧ 0 < kids.length)
    · have e : partB (.mk kind num str keys kids) = false := by
        by_cases hk : kind < 1 ∨ 6 < kind
        · exact part_kind hk
        rcases hbad.resolve_left hk with h | h | h
        · exact numB_bad h
        · exact strB_bad h
        · exact part_lens h (by omega) (by omega)
      rw [e]
      exact part_out kind num str keys kids A3 A4 c3 c4 w hkl hdl hsl hbad
    · have hc : kind = 1 ∨ kind = 2 ∨ kind = 3 ∨ kind = 4 ∨ kind = 5 ∨ kind = 6 := by omega
      have IH := Lib.hid ih
      have HM := Lib.hid hdm
      have HF := Lib.hid hf
      have HK3 := Lib.hid hk3
      have H4 := Lib.hid h4
      rcases hc with rfl | rfl | rfl | rfl | rfl | rfl
      · obtain rfl : num = 0 := by omega
        exact part_keyed1 m str keys kids A3 A4 c3 c4 w B IH HM HF hB hkl hdl (by omega) (by omega) HK3 H4
      · obtain rfl : num = 0 := by omega
        exact part_keyed2 m str keys kids A3 A4 c3 c4 w B IH HM HF hB hkl hdl (by omega) (by omega) HK3 H4
      · obtain rfl : num = 0 := by omega
        obtain rfl : keys = [] := List.eq_nil_of_length_eq_zero (by omega)
        exact part_list m str kids A3 A4 c3 c4 w B IH HM HF hB hdl H4 (by omega) (sound_list (by omega) (by omega) (by omega) (by omega) rfl (by omega))
      · clear HF H4 HM h4 hdm hf
        obtain rfl : keys = [] := List.eq_nil_of_length_eq_zero (by omega)
        obtain rfl : kids = [] := List.eq_nil_of_length_eq_zero (by omega)
        by_cases hn : num = 0
        · subst hn
          exact part_int0 str A3 A4 c3 c4 w (by omega) (sound_list (by omega) (by omega) (by omega) (by omega) rfl (fun _ => rfl))
        · exact part_int num str A3 A4 c3 c4 w hn (by omega) (sound_list (by omega) (by omega) (by omega) (by omega) rfl (fun _ => rfl))
      · clear HF H4 HM h4 hdm hf
        obtain rfl : keys = [] := List.eq_nil_of_length_eq_zero (by omega)
        obtain rfl : kids = [] := List.eq_nil_of_length_eq_zero (by omega)
        have hn : num = 0 ∨ num = 1 := by omega
        rcases hn with rfl | rfl
        · exact part_no str A3 A4 c3 c4 w (by omega) (sound_list (by omega) (by omega) (by omega) (by omega) rfl (fun _ => rfl))
        · exact part_yes str A3 A4 c3 c4 w (by omega) (sound_list (by omega) (by omega) (by omega) (by omega) rfl (fun _ => rfl))
      · clear HF H4 HM h4 hdm hf
        obtain rfl : keys = [] := List.eq_nil_of_length_eq_zero (by omega)
        obtain rfl : kids = [] := List.eq_nil_of_length_eq_zero (by omega)
        obtain rfl : num = 0 := by omega
        by_cases hs : str.size = 0
        · exact part_bytes0 str A3 A4 c3 c4 w hs (sound_list (by omega) (by omega) (by omega) (by omega) rfl (fun _ => rfl))
        · exact part_bytes str A3 A4 c3 c4 w (by omega) (by omega) (sound_list (by omega) (by omega) (by omega) (by omega) rfl (fun _ => rfl))
end Go.Proofs.YteecdmceleanjaaGreatDoor
