/-
  The document's own 'part': records and dictionaries.
-/
import Derived.Test.YteecdmceleanjaaGreatDoorB45
namespace Go.Proofs.YteecdmceleanjaaGreatDoor
open Go.RowKit

set_option maxHeartbeats 8000000 in
set_option maxRecDepth 100000 in
theorem part_keyed1 (m : Nat) (str : ByteArray) (keys : List ByteArray) (kids : List D) (A3 A4 : Option Addr) (c3 c4 : Nat) (w : World) (B : Nat)
    (IH : Hid (∀ (d : D) (v0 v1 v2 v3 v4 : Value) (w : World) (B : Nat), d.depth ≤ m → d.Fit → B ≤ w.heap.size → DocIn w B d v0 v1 v2 v3 v4 →
    Calls Tryz.prog 112 #[.agg #[v0, v1, v2, v3, v4]] w fun e w' => e = .returned (.bool (partB d)) ∧ Below w.heap.size w w'))
    (HM : Hid (∀ (k : Nat) (h : k < kids.length), (kids[k]).depth ≤ m)) (HF : Hid (D.Fit (.mk 1 0 str keys kids))) (hB : B ≤ w.heap.size) (hkl : keys.length ≤ 10000) (hdl : kids.length ≤ 10000) (gs : str.size = 0) (hlen : keys.length = kids.length)
    (HK3 : Hid (Strs w B (.slice A3 keys.length c3) keys)) (H4 : Hid (True ∧ kids.length ≤ c4 ∧ (0 < kids.length → ∃ b off, A4 = some ⟨b, off, none⟩ ∧ b < B ∧ KidsIn w B b off 0 kids))) :
    Calls Tryz.prog 112 #[.agg #[.int .i64 1, .int .i64 0, .string str, .slice A3 keys.length c3, .slice A4 kids.length c4]] w fun e w' => e = .returned (.bool (partB (.mk 1 0 str keys kids))) ∧ Below w.heap.size w w' := by
  have ht := toList_empty gs
  have HL := Lib.hid hlen
  have hlen2 : ((keys.length : Int) != (kids.length : Int)) = false := by simp [hlen]
  have GS := Lib.hid gs
  clear hlen gs
  go_enter Tryz.func112, Tryz.ntmps112
  go_wp2_with fail
  go_loopw [3] (fun i wr => ∃ k : Nat, k ≤ keys.length ∧ i = .int .i64 k ∧ (∀ i, i < k → keyAt (.mk 1 0 str keys kids) i = true) ∧ Below (w.heap.size + 1) (w.alloc (.cells #[.int .i64 1, .int .i64 0, .string str, .slice A3 keys.length c3, .slice A4 kids.length c4] 29)) wr) (fun i _ => keys.length - (intOf i).toNat)
  case atStart => exact ⟨0, Nat.zero_le _, rfl, fun i h => absurd h (by omega), Below.refl _ _⟩
  case round =>
    obtain ⟨k, hk, rfl, hall, hb⟩ := hrel
    have HA := Lib.hid hall; clear hall
    have hz := hb.size
    simp only [World.size_alloc] at hz
    obtain ⟨gb0, gb1, gb2, gb3, gb4⟩ := box_cell hb
    have HB := Lib.hid hb; clear hb
    by_cases hlt : k < keys.length
    · skip
      obtain ⟨A', c', e', _, hc2⟩ := HK3.out
      injection e' with e1 _ e2; subst e1; subst e2
      obtain ⟨b, off, rfl, hab, hcells⟩ := hc2 (by omega)
      have hkey : keys[k].size ≤ 10000 := HF.out.key (d := .mk 1 0 str keys kids) hlt
      rcases Nat.eq_zero_or_pos k with rfl | hk0
      · have gk : wr.cell? ⟨b, off, none⟩ = some (.string keys[0]) := (box_old HB.out (by omega)).trans (hcells 0 hlt)
        clear hcells
        cases hko : keyOfB 1 keys[0] with
        | true =>
          have EK := Lib.hid (key_yes0 (k := 1) (s := str) (l := kids) hlt hko)
          rw [key1] at hko
          go_wp2_with fail
          go_quiet (fail)
          go_wp2_with fail
          refine (rname_any _ _).mono ?_
          rintro e w' ⟨rfl, rfl⟩
          go_wp2_with fail
          go_roundw
          case rel => exact ⟨1, by omega, by go_num, one_all EK.out, rbelow_dr HB.out _⟩
          case measure => simp [intOf]; omega
        | false =>
          have EK := Lib.hid (part_key (s := str) (l := kids) (.inl rfl) 0 hlt (key_not hlt hko))
          rw [key1] at hko
          go_wp2_with fail
          go_quiet (fail)
          go_wp2_with fail
          refine (rname_any _ _).mono ?_
          rintro e w' ⟨rfl, rfl⟩
          go_wp2_with fail
          go_ret
          exact ⟨ret_bool EK.out.symm, rbelow_dr (box_below HB.out) _⟩
      · obtain ⟨j, rfl⟩ : ∃ j, k = j + 1 := ⟨k - 1, by omega⟩
        have gk : wr.cell? ⟨b, off + j + 1, none⟩ = some (.string keys[j + 1]) := (box_old HB.out (by omega)).trans (hcells (j + 1) hlt)
        have gj : wr.cell? ⟨b, off + j, none⟩ = some (.string keys[j]) := (box_old HB.out (by omega)).trans (hcells j (by omega))
        have gk2 : wr.cell? ⟨b, off + (j + 1), none⟩ = some (.string keys[j + 1]) := gk
        clear hcells hk0
        have hj0 : (0 : Int) < (j : Int) + 1 := by omega
        have hj1 : (j : Int) + 1 < (keys.length : Int) := by omega
        have hj2 : (0 : Int) ≤ (j : Int) + 1 := by omega
        have hj3 : (j : Int) < (keys.length : Int) := by omega
        have hj4 : (0 : Int) ≤ (j : Int) := by omega
        have hjp : decide ((0 : Int) < (j : Int) + 1) = true := decide_eq_true (by omega)
        by_cases hsc : scmp keys[j] keys[j + 1] = -1
        · obtain ⟨hlt3, heq3⟩ := flip_lt hsc
          cases hko : keyOfB 1 keys[j + 1] with
          | true =>
            have EK := Lib.hid (key_yes (k := 1) (s := str) (l := kids) hlt hko hsc)
            clear hsc
            rw [key1] at hko
            go_wp2_with fail
            go_quiet (fail)
            go_wp2_with fail
            refine (rname_any _ _).mono ?_
            rintro e w' ⟨rfl, rfl⟩
            go_wp2_with fail
            go_roundw
            case rel => exact ⟨j + 2, by omega, by go_num, more_all HA.out EK.out, rbelow_dr HB.out _⟩
            case measure => simp [intOf]; omega
          | false =>
            have EK := Lib.hid (part_key (s := str) (l := kids) (.inl rfl) (j + 1) hlt (key_not hlt hko))
            clear hsc
            rw [key1] at hko
            go_wp2_with fail
            go_quiet (fail)
            go_wp2_with fail
            refine (rname_any _ _).mono ?_
            rintro e w' ⟨rfl, rfl⟩
            go_wp2_with fail
            go_ret
            exact ⟨ret_bool EK.out.symm, rbelow_dr (box_below HB.out) _⟩
        · have EK := Lib.hid (part_key (s := str) (l := kids) (.inl rfl) (j + 1) hlt (key_ord hlt hsc))
          rcases flip_ge hsc with hlt3 | ⟨hlt3, heq3⟩
          all_goals clear hsc
          all_goals (go_wp2_with fail; go_quiet (fail); go_wp2_with fail; go_ret; exact ⟨ret_bool EK.out.symm, rbelow_dr (box_below HB.out) _⟩)

    · have SND := Lib.hid (sound_keyed (l := kids) (.inl rfl) GS.out (keyedB_true (d := .mk 1 0 str keys kids) HL.out fun i hi => HA.out i (by have : i < keys.length := hi; omega)))
      have HB0 := HB
      clear HA
      go_wp2_with fail
      go_loopw [5] (fun i wr => ∃ k : Nat, k ≤ kids.length ∧ i = .int .i64 k ∧ (∀ (j : Nat) (h : j < kids.length), j < k → partB kids[j] = true) ∧ Below (w.heap.size + 1) (w.alloc (.cells #[.int .i64 1, .int .i64 0, .string str, .slice A3 keys.length c3, .slice A4 kids.length c4] 29)) wr) (fun i _ => kids.length - (intOf i).toNat)
      case atStart => exact ⟨0, Nat.zero_le _, rfl, fun j _ hj => absurd hj (by omega), HB0.out⟩
      case round =>
        obtain ⟨k, hk, rfl, hall, hb⟩ := hrel
        have HA := Lib.hid hall; clear hall
        have hz := hb.size
        simp only [World.size_alloc] at hz
        obtain ⟨gb0, gb1, gb2, gb3, gb4⟩ := box_cell hb
        have HB := Lib.hid hb; clear hb
        by_cases hlt : k < kids.length
        · obtain ⟨_, _, h4⟩ := H4.out
          obtain ⟨b, off, rfl, hab, hkids⟩ := h4 (by show 0 < kids.length; omega)
          have hcells := KidsIn.at_ hkids k hlt
          rw [Nat.zero_add] at hcells
          obtain ⟨u0, u1, u2, u3, u4, x0, x1, x2, x3, x4, hdk⟩ := hcells
          rw [← box_old HB.out (by omega)] at x0 x1 x2 x3 x4
          clear hkids h4
          obtain ⟨A5, c5, A6, c6, rfl, rfl, rfl, rfl, rfl⟩ := hdk.forms
          have HK := Lib.hid hdk; clear hdk
          go_wp2_with fail
          refine (IH.out kids[k] _ _ _ _ _ _ B (HM.out k hlt) (HF.out.kid (d := .mk 1 0 str keys kids) hlt) (by omega) (HK.out.keep (Nat.le_refl _) fun p hp => (HB.out.cell (p := p) (by omega)).trans (World.cell?_alloc_lt w _ p (by omega)))).mono ?_
          rintro e w2 ⟨rfl, hb2⟩
          have HB2 := Lib.hid (HB.out.trans (hb2.mono (by omega))); clear hb2
          cases hp : partB kids[k] with
          | true =>
            have HP := Lib.hid hp; clear hp
            go_wp2_with fail
            go_roundw
            case rel => exact ⟨k + 1, by omega, by go_num, fun j h hj => by
              rcases Nat.lt_or_ge j k with h1 | h1
              · exact HA.out j h h1
              · obtain rfl : j = k := by omega
                exact HP.out, HB2.out⟩
            case measure => simp [intOf]; omega
          | false =>
            have E := Lib.hid (partB_kid (d := .mk 1 0 str keys kids) k hlt hp); clear hp
            go_wp2_with fail
            go_ret
            exact ⟨ret_bool E.out.symm, box_below HB2.out⟩
        · have E := Lib.hid (partB_all (d := .mk 1 0 str keys kids) SND.out fun i hi => HA.out i hi (by show i < k; have : i < kids.length := hi; omega))
          go_wp2_with fail
          go_ret
          exact ⟨ret_bool E.out.symm, box_below HB.out⟩


set_option maxHeartbeats 8000000 in
set_option maxRecDepth 100000 in
theorem part_keyed2 (m : Nat) (str : ByteArray) (keys : List ByteArray) (kids : List D) (A3 A4 : Option Addr) (c3 c4 : Nat) (w : World) (B : Nat)
    (IH : Hid (∀ (d : D) (v0 v1 v2 v3 v4 : Value) (w : World) (B : Nat), d.depth ≤ m → d.Fit → B ≤ w.heap.size → DocIn w B d v0 v1 v2 v3 v4 →
    Calls Tryz.prog 112 #[.agg #[v0, v1, v2, v3, v4]] w fun e w' => e = .returned (.bool (partB d)) ∧ Below w.heap.size w w'))
    (HM : Hid (∀ (k : Nat) (h : k < kids.length), (kids[k]).depth ≤ m)) (HF : Hid (D.Fit (.mk 2 0 str keys kids))) (hB : B ≤ w.heap.size) (hkl : keys.length ≤ 10000) (hdl : kids.length ≤ 10000) (gs : str.size = 0) (hlen : keys.length = kids.length)
    (HK3 : Hid (Strs w B (.slice A3 keys.length c3) keys)) (H4 : Hid (True ∧ kids.length ≤ c4 ∧ (0 < kids.length → ∃ b off, A4 = some ⟨b, off, none⟩ ∧ b < B ∧ KidsIn w B b off 0 kids))) :
    Calls Tryz.prog 112 #[.agg #[.int .i64 2, .int .i64 0, .string str, .slice A3 keys.length c3, .slice A4 kids.length c4]] w fun e w' => e = .returned (.bool (partB (.mk 2 0 str keys kids))) ∧ Below w.heap.size w w' := by
  have ht := toList_empty gs
  have HL := Lib.hid hlen
  have hlen2 : ((keys.length : Int) != (kids.length : Int)) = false := by simp [hlen]
  have GS := Lib.hid gs
  clear hlen gs
  go_enter Tryz.func112, Tryz.ntmps112
  go_wp2_with fail
  go_loopw [3] (fun i wr => ∃ k : Nat, k ≤ keys.length ∧ i = .int .i64 k ∧ (∀ i, i < k → keyAt (.mk 2 0 str keys kids) i = true) ∧ Below (w.heap.size + 1) (w.alloc (.cells #[.int .i64 2, .int .i64 0, .string str, .slice A3 keys.length c3, .slice A4 kids.length c4] 29)) wr) (fun i _ => keys.length - (intOf i).toNat)
  case atStart => exact ⟨0, Nat.zero_le _, rfl, fun i h => absurd h (by omega), Below.refl _ _⟩
  case round =>
    obtain ⟨k, hk, rfl, hall, hb⟩ := hrel
    have HA := Lib.hid hall; clear hall
    have hz := hb.size
    simp only [World.size_alloc] at hz
    obtain ⟨gb0, gb1, gb2, gb3, gb4⟩ := box_cell hb
    have HB := Lib.hid hb; clear hb
    by_cases hlt : k < keys.length
    · skip
      obtain ⟨A', c', e', _, hc2⟩ := HK3.out
      injection e' with e1 _ e2; subst e1; subst e2
      obtain ⟨b, off, rfl, hab, hcells⟩ := hc2 (by omega)
      have hkey : keys[k].size ≤ 10000 := HF.out.key (d := .mk 2 0 str keys kids) hlt
      rcases Nat.eq_zero_or_pos k with rfl | hk0
      · have gk : wr.cell? ⟨b, off, none⟩ = some (.string keys[0]) := (box_old HB.out (by omega)).trans (hcells 0 hlt)
        clear hcells
        cases hko : keyOfB 2 keys[0] with
        | true =>
          have EK := Lib.hid (key_yes0 (k := 2) (s := str) (l := kids) hlt hko)
          rw [key2] at hko
          have hk6 : decide ((256 : Int) < (keys[0].size : Int)) = false := by simp at hko ⊢; omega
          go_wp2_with fail
          go_quiet (fail)
          go_wp2_with fail
          refine (rname_any _ _).mono ?_
          rintro e w' ⟨rfl, rfl⟩
          go_wp2_with fail
          go_roundw
          case rel => exact ⟨1, by omega, by go_num, one_all EK.out, rbelow_dr HB.out _⟩
          case measure => simp [intOf]; omega
        | false =>
          have EK := Lib.hid (part_key (s := str) (l := kids) (.inr rfl) 0 hlt (key_not hlt hko))
          rw [key2] at hko
          have hk6 : decide ((256 : Int) < (keys[0].size : Int)) = true := by simp at hko ⊢; omega
          go_wp2_with fail
          go_quiet (fail)
          go_wp2_with fail
          go_ret
          exact ⟨ret_bool EK.out.symm, rbelow_dr (box_below HB.out) _⟩
      · obtain ⟨j, rfl⟩ : ∃ j, k = j + 1 := ⟨k - 1, by omega⟩
        have gk : wr.cell? ⟨b, off + j + 1, none⟩ = some (.string keys[j + 1]) := (box_old HB.out (by omega)).trans (hcells (j + 1) hlt)
        have gj : wr.cell? ⟨b, off + j, none⟩ = some (.string keys[j]) := (box_old HB.out (by omega)).trans (hcells j (by omega))
        have gk2 : wr.cell? ⟨b, off + (j + 1), none⟩ = some (.string keys[j + 1]) := gk
        clear hcells hk0
        have hj0 : (0 : Int) < (j : Int) + 1 := by omega
        have hj1 : (j : Int) + 1 < (keys.length : Int) := by omega
        have hj2 : (0 : Int) ≤ (j : Int) + 1 := by omega
        have hj3 : (j : Int) < (keys.length : Int) := by omega
        have hj4 : (0 : Int) ≤ (j : Int) := by omega
        have hjp : decide ((0 : Int) < (j : Int) + 1) = true := decide_eq_true (by omega)
        by_cases hsc : scmp keys[j] keys[j + 1] = -1
        · obtain ⟨hlt3, heq3⟩ := flip_lt hsc
          cases hko : keyOfB 2 keys[j + 1] with
          | true =>
            have EK := Lib.hid (key_yes (k := 2) (s := str) (l := kids) hlt hko hsc)
            clear hsc
            rw [key2] at hko
            have hk6 : decide ((256 : Int) < (keys[j + 1].size : Int)) = false := by simp at hko ⊢; omega
            go_wp2_with fail
            go_quiet (fail)
            go_wp2_with fail
            refine (rname_any _ _).mono ?_
            rintro e w' ⟨rfl, rfl⟩
            go_wp2_with fail
            go_roundw
            case rel => exact ⟨j + 2, by omega, by go_num, more_all HA.out EK.out, rbelow_dr HB.out _⟩
            case measure => simp [intOf]; omega
          | false =>
            have EK := Lib.hid (part_key (s := str) (l := kids) (.inr rfl) (j + 1) hlt (key_not hlt hko))
            clear hsc
            rw [key2] at hko
            have hk6 : decide ((256 : Int) < (keys[j + 1].size : Int)) = true := by simp at hko ⊢; omega
            go_wp2_with fail
            go_quiet (fail)
            go_wp2_with fail
            go_ret
            exact ⟨ret_bool EK.out.symm, rbelow_dr (box_below HB.out) _⟩
        · have EK := Lib.hid (part_key (s := str) (l := kids) (.inr rfl) (j + 1) hlt (key_ord hlt hsc))
          rcases flip_ge hsc with hlt3 | ⟨hlt3, heq3⟩
          all_goals clear hsc
          all_goals (go_wp2_with fail; go_quiet (fail); go_wp2_with fail; go_ret; exact ⟨ret_bool EK.out.symm, rbelow_dr (box_below HB.out) _⟩)

    · have SND := Lib.hid (sound_keyed (l := kids) (.inr rfl) GS.out (keyedB_true (d := .mk 2 0 str keys kids) HL.out fun i hi => HA.out i (by have : i < keys.length := hi; omega)))
      have HB0 := HB
      clear HA
      go_wp2_with fail
      go_loopw [5] (fun i wr => ∃ k : Nat, k ≤ kids.length ∧ i = .int .i64 k ∧ (∀ (j : Nat) (h : j < kids.length), j < k → partB kids[j] = true) ∧ Below (w.heap.size + 1) (w.alloc (.cells #[.int .i64 2, .int .i64 0, .string str, .slice A3 keys.length c3, .slice A4 kids.length c4] 29)) wr) (fun i _ => kids.length - (intOf i).toNat)
      case atStart => exact ⟨0, Nat.zero_le _, rfl, fun j _ hj => absurd hj (by omega), HB0.out⟩
      case round =>
        obtain ⟨k, hk, rfl, hall, hb⟩ := hrel
        have HA := Lib.hid hall; clear hall
        have hz := hb.size
        simp only [World.size_alloc] at hz
        obtain ⟨gb0, gb1, gb2, gb3, gb4⟩ := box_cell hb
        have HB := Lib.hid hb; clear hb
        by_cases hlt : k < kids.length
        · obtain ⟨_, _, h4⟩ := H4.out
          obtain ⟨b, off, rfl, hab, hkids⟩ := h4 (by show 0 < kids.length; omega)
          have hcells := KidsIn.at_ hkids k hlt
          rw [Nat.zero_add] at hcells
          obtain ⟨u0, u1, u2, u3, u4, x0, x1, x2, x3, x4, hdk⟩ := hcells
          rw [← box_old HB.out (by omega)] at x0 x1 x2 x3 x4
          clear hkids h4
          obtain ⟨A5, c5, A6, c6, rfl, rfl, rfl, rfl, rfl⟩ := hdk.forms
          have HK := Lib.hid hdk; clear hdk
          go_wp2_with fail
          refine (IH.out kids[k] _ _ _ _ _ _ B (HM.out k hlt) (HF.out.kid (d := .mk 2 0 str keys kids) hlt) (by omega) (HK.out.keep (Nat.le_refl _) fun p hp => (HB.out.cell (p := p) (by omega)).trans (World.cell?_alloc_lt w _ p (by omega)))).mono ?_
          rintro e w2 ⟨rfl, hb2⟩
          have HB2 := Lib.hid (HB.out.trans (hb2.mono (by omega))); clear hb2
          cases hp : partB kids[k] with
          | true =>
            have HP := Lib.hid hp; clear hp
            go_wp2_with fail
            go_roundw
            case rel => exact ⟨k + 1, by omega, by go_num, fun j h hj => by
              rcases Nat.lt_or_ge j k with h1 | h1
              · exact HA.out j h h1
              · obtain rfl : j = k := by omega
                exact HP.out, HB2.out⟩
            case measure => simp [intOf]; omega
          | false =>
            have E := Lib.hid (partB_kid (d := .mk 2 0 str keys kids) k hlt hp); clear hp
            go_wp2_with fail
            go_ret
            exact ⟨ret_bool E.out.symm, box_below HB2.out⟩
        · have E := Lib.hid (partB_all (d := .mk 2 0 str keys kids) SND.out fun i hi => HA.out i hi (by show i < k; have : i < kids.length := hi; omega))
          go_wp2_with fail
          go_ret
          exact ⟨ret_bool E.out.symm, box_below HB.out⟩

end Go.Proofs.YteecdmceleanjaaGreatDoor
