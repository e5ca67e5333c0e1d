/-
  The document's own Unquote.
-/
import Derived.Test.YtgklnafliaplkaaGreatDoorCRInt
import Derived.Test.YtgklnafliaplkaaGreatDoorB24
import Derived.OwnWalk
namespace Go.Proofs.YtgklnafliaplkaaGreatDoor
open Go.RowKit

/-- A byte string's rest, with what was told so far. -/
def bytesG (l acc : List UInt8) : Tk (List UInt8) := bytesF (l.length + 1) l acc
theorem bytesF_fuel : ∀ (f : Nat) (l acc : List UInt8), l.length + 1 ≤ f → bytesF f l acc = bytesG l acc
  | 0, l, _, h => by omega
  | f + 1, l, acc, h => by
    unfold bytesG
    by_cases h34 : pk l = 34
    · rw [bytesF_end h34, bytesF_end h34]
    · cases hi : innerP l with
      | bad a e => rw [bytesF_bad h34 hi, bytesF_bad h34 hi]
      | ok c l' =>
        have hl := (inner_ok hi).2
        rw [bytesF_go h34 hi, bytesF_go h34 hi, bytesF_fuel f l' _ (by omega), bytesF_fuel l.length l' _ (by omega)]
termination_by f => f
theorem bytesG_end {l acc : List UInt8} (h : pk l = 34) : bytesG l acc = .ok acc l.tail := bytesF_end h
theorem bytesG_bad {l acc a : List UInt8} {e : Nat} (h : pk l ≠ 34) (hi : innerP l = .bad a e) : bytesG l acc = .bad a e := bytesF_bad h hi
theorem bytesG_go {l acc l' : List UInt8} {c : UInt8} (h : pk l ≠ 34) (hi : innerP l = .ok c l') : bytesG l acc = bytesG l' (acc ++ [c]) := by
  have hl := (inner_ok hi).2
  unfold bytesG
  rw [bytesF_go h hi, bytesF_fuel l.length l' _ (by omega)]
  rfl
theorem plain_iff {c : UInt8} : plainC c = true ↔ 32 ≤ c.toNat ∧ c.toNat ≤ 126 := by simp [plainC]
theorem in_plain {s : ByteArray} {k : Nat} (h : k < s.size) (h1 : 32 ≤ s[k].toNat ∧ s[k].toNat ≤ 126) (h2 : s[k] ≠ 92) : innerP (s.data.toList.drop k) = .ok s[k] (s.data.toList.drop (k + 1)) := by
  have hp := plain_iff.2 h1
  unfold innerP
  rw [ro_pk h, if_neg (by rw [hp]; simp), if_pos h2, ro_tail]
theorem in_bad {s : ByteArray} {k : Nat} (h : k < s.size) (h1 : ¬ (32 ≤ s[k].toNat ∧ s[k].toNat ≤ 126)) : ∃ a e, innerP (s.data.toList.drop k) = .bad a e := by
  have hp : plainC s[k] = false := by
    cases hx : plainC s[k] with
    | false => rfl
    | true => exact absurd (plain_iff.1 hx) h1
  exact ⟨_, _, by unfold innerP; rw [ro_pk h, if_pos hp]⟩
theorem in_end {s : ByteArray} {k : Nat} (h : s.size ≤ k) : innerP (s.data.toList.drop k) = .bad (s.data.toList.drop k) 4 := by
  unfold innerP
  rw [ro_pk0 h, if_pos (by decide)]
theorem in_slash {s : ByteArray} {k : Nat} (h : k < s.size) (h2 : s[k] = 92) : innerP (s.data.toList.drop k) =
    if pk (s.data.toList.drop (k + 1)) = 34 ∨ pk (s.data.toList.drop (k + 1)) = 92 then .ok (pk (s.data.toList.drop (k + 1))) (s.data.toList.drop (k + 2))
    else if pk (s.data.toList.drop (k + 1)) ≠ 120 then .bad (s.data.toList.drop (k + 1)) 4 else hex2P (s.data.toList.drop (k + 2)) := by
  unfold innerP
  rw [ro_pk h, h2, if_neg (by decide), if_neg (by simp), ro_tail, ro_tail]
theorem in_slash0 {s : ByteArray} {k : Nat} (h : k < s.size) (h2 : s[k] = 92) (h3 : s.size ≤ k + 1) : ∃ a e, innerP (s.data.toList.drop k) = .bad a e := by
  rw [in_slash h h2, ro_pk0 h3, if_neg (by decide), if_pos (by decide)]
  exact ⟨_, _, rfl⟩
theorem in_slash1 {s : ByteArray} {k : Nat} (h : k < s.size) (h2 : s[k] = 92) (h3 : k + 1 < s.size) (h4 : s[k + 1] = 34 ∨ s[k + 1] = 92) : innerP (s.data.toList.drop k) = .ok s[k + 1] (s.data.toList.drop (k + 2)) := by
  rw [in_slash h h2, ro_pk h3, if_pos h4]
theorem in_slash2 {s : ByteArray} {k : Nat} (h : k < s.size) (h2 : s[k] = 92) (h3 : k + 1 < s.size) (h4 : ¬ (s[k + 1] = 34 ∨ s[k + 1] = 92)) (h5 : s[k + 1] ≠ 120) : ∃ a e, innerP (s.data.toList.drop k) = .bad a e := by
  rw [in_slash h h2, ro_pk h3, if_neg h4, if_pos h5]
  exact ⟨_, _, rfl⟩
theorem in_hex {s : ByteArray} {k : Nat} (h : k < s.size) (h2 : s[k] = 92) (h3 : k + 1 < s.size) (h5 : s[k + 1] = 120) : innerP (s.data.toList.drop k) = hex2P (s.data.toList.drop (k + 2)) := by
  rw [in_slash h h2, ro_pk h3, if_neg (by rw [h5]; decide), if_neg (by simp [h5])]
theorem hexV_zero : hexV 0 = none := by decide
theorem hex_no {s : ByteArray} {k : Nat} (h : s.size ≤ k ∨ ∃ h : k < s.size, hexV s[k] = none) : hexP (s.data.toList.drop k) = .bad (s.data.toList.drop k) 4 := by
  unfold hexP
  rcases h with h | ⟨h, h1⟩
  · rw [ro_pk0 h, hexV_zero]
  · rw [ro_pk h, h1]
theorem hex_yes {s : ByteArray} {k n : Nat} (h : k < s.size) (h1 : hexV s[k] = some n) : hexP (s.data.toList.drop k) = .ok n (s.data.toList.drop (k + 1)) := by
  unfold hexP
  rw [ro_pk h, h1, ro_tail]
theorem hex2_no1 {s : ByteArray} {k : Nat} (h : s.size ≤ k ∨ ∃ h : k < s.size, hexV s[k] = none) : ∃ a e, hex2P (s.data.toList.drop k) = .bad a e := by
  unfold hex2P; rw [hex_no h]; exact ⟨_, _, rfl⟩
theorem hex2_no2 {s : ByteArray} {k n : Nat} (h0 : k < s.size) (h1 : hexV s[k] = some n) (h : s.size ≤ k + 1 ∨ ∃ h : k + 1 < s.size, hexV s[k + 1] = none) : ∃ a e, hex2P (s.data.toList.drop k) = .bad a e := by
  unfold hex2P; rw [hex_yes h0 h1]; simp only; rw [hex_no h]; exact ⟨_, _, rfl⟩
theorem hex2_yes {s : ByteArray} {k n m : Nat} (h0 : k < s.size) (h1 : hexV s[k] = some n) (h2 : k + 1 < s.size) (h3 : hexV s[k + 1] = some m) : hex2P (s.data.toList.drop k) = .ok (UInt8.ofNat (16 * n + m)) (s.data.toList.drop (k + 2)) := by
  unfold hex2P; rw [hex_yes h0 h1]; simp only; rw [hex_yes h2 h3]
theorem hexV_le15 {c : UInt8} {n : Nat} (h : hexV c = some n) : n ≤ 15 ∧ valV c = (n : Int) := by
  refine ⟨?_, by unfold valV; rw [h]⟩
  unfold hexV at h
  split at h
  · rename_i hd
    have := (by simpa [digB] using hd : 48 ≤ c.toNat ∧ c.toNat ≤ 57)
    injection h with h; omega
  · split at h
    · injection h with h; omega
    · cases h
theorem valV_none {c : UInt8} (h : hexV c = none) : valV c = -1 := by unfold valV; rw [h]
/-- What the own quoted tells. -/
def QTo (s : ByteArray) (w : World) (t : Tk (List UInt8)) (e : Ending) (w' : World) : Prop := Below w.heap.size w w' ∧ ((∃ (a : List UInt8) (er : Nat) (k : Nat), t = .bad a er ∧ e = .returned (.tuple #[.string ⟨#[]⟩, .int .i64 k, .bool false])) ∨
  ∃ (v : List UInt8) (l : List UInt8), t = .ok v l ∧ e = .returned (.tuple #[.string ⟨v.toArray⟩, .int .i64 ((s.size - l.length : Nat) : Int), .bool true]))
theorem QTo.bad {s : ByteArray} {w w' : World} {t : Tk (List UInt8)} {k : Nat} {e : Ending} (h : ∃ a er, t = .bad a er) (he : e = .returned (.tuple #[.string ⟨#[]⟩, .int .i64 k, .bool false])) (hb : Below w.heap.size w w') : QTo s w t e w' := by
  obtain ⟨a, er, rfl⟩ := h
  exact ⟨hb, .inl ⟨a, er, k, rfl, he⟩⟩
theorem ro_cat (l : List UInt8) (c : UInt8) : (⟨l.toArray⟩ : ByteArray) ++ ⟨#[c]⟩ = ⟨(l ++ [c]).toArray⟩ := str_append l [c]
set_option maxHeartbeats 8000000 in
set_option maxRecDepth 100000 in
theorem rquoted_any (s : ByteArray) (w : World) (hs : s.size ≤ 1000000) : Calls Tryz.prog 25 #[.string s, .int .i64 0] w fun e w' => QTo s w (bytesP s.data.toList) e w' := by
  by_cases h0 : s.size = 0
  · obtain rfl : s = ⟨#[]⟩ := by
      cases s with
      | mk a =>
        have h' : a.size = 0 := h0
        rw [Array.eq_empty_of_size_eq_zero h']
    clear h0 hs
    go_enter Tryz.func25, Tryz.ntmps25
    go_wp2_with fail
    go_ret3
    exact QTo.bad (k := 0) ⟨_, _, rfl⟩ rfl (Below.refl _ _)
  have hp : (0 : Int) < (s.size : Int) := by omega
  have hse : ¬ s = ByteArray.empty := by rintro rfl; exact h0 rfl
  have hp0 : 0 < s.size := by omega
  have hL0 : s.data.toList.drop 0 = s.data.toList := rfl
  have hpk0 := ro_pk hp0
  rw [hL0] at hpk0
  by_cases h34 : s[0] = 34
  · have e34 : ((s[0].toNat : Int) != 34) = false := by rw [h34]; rfl
    have HR : Hid (bytesP s.data.toList = bytesG (s.data.toList.drop 1) []) := Lib.hid (by
      unfold bytesP bytesG
      rw [if_pos (by rw [hpk0, h34]), List.drop_one])
    clear h34 hpk0 hL0 h0
    go_enter Tryz.func25, Tryz.ntmps25
    go_wp2_with fail
    go_loopw [1, 7] (fun i q wr => ∃ (k : Nat) (acc : List UInt8), 1 ≤ k ∧ k ≤ s.size ∧ acc.length ≤ k ∧ i = .int .i64 k ∧ q = .string ⟨acc.toArray⟩ ∧ Hid (bytesP s.data.toList = bytesG (s.data.toList.drop k) acc) ∧ Hid (Below w.heap.size w wr)) (fun i _ _ => s.size - (intOf i).toNat)
    case atStart => exact ⟨1, [], by omega, by omega, by simp, rfl, rfl, HR, Lib.hid (Below.refl _ _)⟩
    case round =>
      obtain ⟨k, acc, hk1, hk, hal, rfl, rfl, HG, HB⟩ := hrel
      have hzr := HB.out.size
      have hacc : acc.length ≤ 1000000 := by omega
      have hasz : (⟨acc.toArray⟩ : ByteArray).size ≤ 1000000 := by show acc.toArray.size ≤ _; simpa using hacc
      by_cases hlt : k < s.size
      · have i1 : (k : Int) < (s.size : Int) := by omega
        have i2 : (0 : Int) ≤ (k : Int) := by omega
        have i3 : ¬ (s.size : Int) ≤ (k : Int) := by omega
        by_cases h34 : s[k] = 34
        · have e34 : ((s[k].toNat : Int) != 34) = false := by rw [h34]; rfl
          have HE : Hid (bytesP s.data.toList = .ok acc (s.data.toList.drop (k + 1))) := Lib.hid (by
            rw [HG.out, bytesG_end (by rw [ro_pk hlt, h34]), ro_tail])
          clear h34
          go_wp2_with fail
          go_ret3
          refine ⟨HB.out, .inr ⟨acc, s.data.toList.drop (k + 1), HE.out, ?_⟩⟩
          rw [ro_len, show s.size - (s.size - (k + 1)) = k + 1 by omega]
          rfl
        have n34 : ¬ s[k].toNat = 34 := fun e => h34 (UInt8.toNat_inj.1 e)
        have e34 : ((s[k].toNat : Int) != 34) = true := by simp; omega
        have HPK : Hid (pk (s.data.toList.drop k) ≠ 34) := Lib.hid (by rw [ro_pk hlt]; exact h34)
        clear h34 n34
        by_cases hpl : 32 ≤ s[k].toNat ∧ s[k].toNat ≤ 126
        rotate_left
        · have HE : Hid (∃ a er, bytesP s.data.toList = .bad a er) := Lib.hid (by
            obtain ⟨a, er, hh⟩ := in_bad hlt hpl
            exact ⟨a, er, by rw [HG.out, bytesG_bad HPK.out hh]⟩)
          by_cases g1 : (s[k].toNat : Int) < 32
          · clear hpl
            go_wp2_with fail
            go_ret3
            exact QTo.bad (k := k) HE.out rfl HB.out
          · have g2 : (126 : Int) < (s[k].toNat : Int) := by omega
            clear hpl
            go_wp2_with fail
            go_ret3
            exact QTo.bad (k := k) HE.out rfl HB.out
        have g1 : ¬ (s[k].toNat : Int) < 32 := by omega
        have g2 : ¬ (126 : Int) < (s[k].toNat : Int) := by omega
        by_cases h92 : s[k] = 92
        rotate_left
        · have n92 : ¬ s[k].toNat = 92 := fun e => h92 (UInt8.toNat_inj.1 e)
          have e92 : ((s[k].toNat : Int) != 92) = true := by simp; omega
          have HN : Hid (bytesP s.data.toList = bytesG (s.data.toList.drop (k + 1)) (acc ++ [s[k]])) := Lib.hid (by
            rw [HG.out, bytesG_go HPK.out (in_plain hlt hpl h92)])
          have ec := run_conv1 wr (g := wr.heap.size) rfl s[k]
          clear h92 n92 hpl
          go_wp2_with fail
          go_roundw
          case rel => exact ⟨k + 1, acc ++ [s[k]], by omega, by omega, by simp; omega, by go_num, by rw [ro_cat], HN, Lib.hid (HB.out.alloc hzr _)⟩
          case measure => simp [intOf]; omega
        have e92 : ((s[k].toNat : Int) != 92) = false := by rw [h92]; rfl
        clear hpl
        by_cases hlt1 : k + 1 < s.size
        rotate_left
        · have HE : Hid (∃ a er, bytesP s.data.toList = .bad a er) := Lib.hid (by
            obtain ⟨a, er, hh⟩ := in_slash0 hlt h92 (by omega)
            exact ⟨a, er, by rw [HG.out, bytesG_bad HPK.out hh]⟩)
          have j1 : (s.size : Int) ≤ (k : Int) + 1 := by omega
          clear h92
          go_wp2_with fail
          go_ret3
          exact QTo.bad (k := k + 1) HE.out rfl HB.out
        have j1 : ¬ (s.size : Int) ≤ (k : Int) + 1 := by omega
        have j2 : (k : Int) + 1 < (s.size : Int) := by omega
        have j3 : (0 : Int) ≤ (k : Int) + 1 := by omega
        by_cases hq : s[k + 1] = 34 ∨ s[k + 1] = 92
        · have HN : Hid (bytesP s.data.toList = bytesG (s.data.toList.drop (k + 2)) (acc ++ [s[k + 1]])) := Lib.hid (by
            rw [HG.out, bytesG_go HPK.out (in_slash1 hlt h92 hlt1 hq)])
          have ec := run_conv1 wr (g := wr.heap.size) rfl s[k + 1]
          clear h92
          rcases hq with hq | hq
          · have a1 : ((s[k + 1].toNat : Int) == 34) = true := by rw [hq]; rfl
            clear hq
            go_wp2_with fail
            go_roundw
            case rel => exact ⟨k + 2, acc ++ [s[k + 1]], by omega, by omega, by simp; omega, by go_num, by rw [ro_cat], HN, Lib.hid (HB.out.alloc hzr _)⟩
            case measure => simp [intOf]; omega
          · have a1 : ((s[k + 1].toNat : Int) == 34) = false := by rw [hq]; rfl
            have a2 : ((s[k + 1].toNat : Int) == 92) = true := by rw [hq]; rfl
            clear hq
            go_wp2_with fail
            go_roundw
            case rel => exact ⟨k + 2, acc ++ [s[k + 1]], by omega, by omega, by simp; omega, by go_num, by rw [ro_cat], HN, Lib.hid (HB.out.alloc hzr _)⟩
            case measure => simp [intOf]; omega
        have n1 : ¬ s[k + 1].toNat = 34 := fun e => hq (.inl (UInt8.toNat_inj.1 e))
        have n2 : ¬ s[k + 1].toNat = 92 := fun e => hq (.inr (UInt8.toNat_inj.1 e))
        have a1 : ((s[k + 1].toNat : Int) == 34) = false := by simp; omega
        have a2 : ((s[k + 1].toNat : Int) == 92) = false := by simp; omega
        by_cases h120 : s[k + 1] = 120
        rotate_left
        · have n3 : ¬ s[k + 1].toNat = 120 := fun e => h120 (UInt8.toNat_inj.1 e)
          have a3 : ((s[k + 1].toNat : Int) != 120) = true := by simp; omega
          have HE : Hid (∃ a er, bytesP s.data.toList = .bad a er) := Lib.hid (by
            obtain ⟨a, er, hh⟩ := in_slash2 hlt h92 hlt1 hq h120
            exact ⟨a, er, by rw [HG.out, bytesG_bad HPK.out hh]⟩)
          clear h92 hq h120 n1 n2 n3
          go_wp2_with fail
          go_ret3
          exact QTo.bad (k := k + 1) HE.out rfl HB.out
        have a3 : ((s[k + 1].toNat : Int) != 120) = false := by rw [h120]; rfl
        have HIN := Lib.hid (in_hex hlt h92 hlt1 h120)
        clear h92 hq h120 n1 n2
        have HBAD : Hid ((∃ a er, hex2P (s.data.toList.drop (k + 2)) = .bad a er) → ∃ a er, bytesP s.data.toList = .bad a er) := Lib.hid (by
          rintro ⟨a, er, hh⟩
          exact ⟨a, er, by rw [HG.out, bytesG_bad HPK.out (by rw [HIN.out, hh])]⟩)
        by_cases hlt2 : k + 2 < s.size
        rotate_left
        · have HE := Lib.hid (HBAD.out (hex2_no1 (.inl (by omega))))
          have l1 : (s.size : Int) ≤ (k : Int) + 2 := by omega
          go_wp2_with fail
          refine wp_loop_rounds 3 ?_
          rw [rounds_succ]
          go_wp2_with fail
          go_ret3
          exact QTo.bad (k := k + 2) HE.out rfl HB.out
        have l1 : ¬ (s.size : Int) ≤ (k : Int) + 2 := by omega
        have l2 : (k : Int) + 2 < (s.size : Int) := by omega
        have l3 : (0 : Int) ≤ (k : Int) + 2 := by omega
        cases hv : hexV s[k + 2] with
        | none =>
          have HE := Lib.hid (HBAD.out (hex2_no1 (.inr ⟨hlt2, hv⟩)))
          have HV := Lib.hid (fun W => rvalue_any s[k + 2] W)
          rw [valV_none hv] at HV
          clear hv
          go_wp2_with fail
          refine wp_loop_rounds 3 ?_
          rw [rounds_succ]
          go_wp2_with fail
          refine (HV.out _).mono ?_
          rintro e w5 ⟨rfl, rfl⟩
          go_wp2_with fail
          go_ret3
          exact QTo.bad (k := k + 2) HE.out rfl HB.out
        | some n =>
          obtain ⟨hn15, hvn⟩ := hexV_le15 hv
          have HV := Lib.hid (fun W => rvalue_any s[k + 2] W)
          rw [hvn] at HV
          have HX := Lib.hid hv
          clear hv hvn
          have hn0 : ¬ (n : Int) < 0 := by omega
          by_cases hlt3 : k + 3 < s.size
          rotate_left
          · have HE := Lib.hid (HBAD.out (hex2_no2 hlt2 HX.out (.inl (by omega))))
            have m1 : (s.size : Int) ≤ (k : Int) + 3 := by omega
            go_wp2_with fail
            refine wp_loop_rounds 3 ?_
            rw [rounds_succ]
            go_wp2_with fail
            refine (HV.out _).mono ?_
            rintro e w5 ⟨rfl, rfl⟩
            go_wp2_with fail
            refine (HV.out _).mono ?_
            rintro e w5 ⟨rfl, rfl⟩
            go_wp2_with fail
            rw [rounds_succ]
            go_wp2_with fail
            go_ret3
            exact QTo.bad (k := k + 3) HE.out rfl HB.out
          have m1 : ¬ (s.size : Int) ≤ (k : Int) + 3 := by omega
          have m2 : (k : Int) + 3 < (s.size : Int) := by omega
          have m3 : (0 : Int) ≤ (k : Int) + 3 := by omega
          cases hv2 : hexV s[k + 3] with
          | none =>
            have HE := Lib.hid (HBAD.out (hex2_no2 hlt2 HX.out (.inr ⟨hlt3, hv2⟩)))
            have HV2 := Lib.hid (fun W => rvalue_any s[k + 3] W)
            rw [valV_none hv2] at HV2
            clear hv2
            go_wp2_with fail
            refine wp_loop_rounds 3 ?_
            rw [rounds_succ]
            go_wp2_with fail
            refine (HV.out _).mono ?_
            rintro e w5 ⟨rfl, rfl⟩
            go_wp2_with fail
            refine (HV.out _).mono ?_
            rintro e w5 ⟨rfl, rfl⟩
            go_wp2_with fail
            rw [rounds_succ]
            go_wp2_with fail
            refine (HV2.out _).mono ?_
            rintro e w5 ⟨rfl, rfl⟩
            go_wp2_with fail
            go_ret3
            exact QTo.bad (k := k + 3) HE.out rfl HB.out
          | some m =>
            obtain ⟨hm15, hvm⟩ := hexV_le15 hv2
            have HV2 := Lib.hid (fun W => rvalue_any s[k + 3] W)
            rw [hvm] at HV2
            have hm0 : ¬ (m : Int) < 0 := by omega
            have HN : Hid (bytesP s.data.toList = bytesG (s.data.toList.drop (k + 4)) (acc ++ [UInt8.ofNat (16 * n + m)])) := Lib.hid (by
              rw [HG.out, bytesG_go HPK.out (by rw [HIN.out]; exact hex2_yes hlt2 HX.out hlt3 hv2)])
            obtain ⟨q, hq⟩ : ∃ q, q = UInt8.ofNat (16 * n + m) := ⟨_, rfl⟩
            have hqn : (q.toNat : Int) = 16 * (n : Int) + (m : Int) := by rw [hq, UInt8.toNat_ofNat']; omega
            rw [← hq] at HN
            have ec := run_conv1 wr (g := wr.heap.size) rfl q
            rw [hqn] at ec
            clear hv2 hvm hq hqn
            go_wp2_with fail
            refine wp_loop_rounds 3 ?_
            rw [rounds_succ]
            go_wp2_with fail
            refine (HV.out _).mono ?_
            rintro e w5 ⟨rfl, rfl⟩
            go_wp2_with fail
            refine (HV.out _).mono ?_
            rintro e w5 ⟨rfl, rfl⟩
            go_wp2_with fail
            rw [rounds_succ]
            go_wp2_with fail
            refine (HV2.out _).mono ?_
            rintro e w5 ⟨rfl, rfl⟩
            go_wp2_with fail
            refine (HV2.out _).mono ?_
            rintro e w5 ⟨rfl, rfl⟩
            go_wp2_with fail
            rw [rounds_succ]
            go_wp2_with fail
            go_roundw
            case rel => exact ⟨k + 4, acc ++ [q], by omega, by omega, by simp; omega, by go_num, by rw [ro_cat], HN, Lib.hid (HB.out.alloc hzr _)⟩
            case measure => simp [intOf]; omega
      · have i1 : ¬ (k : Int) < (s.size : Int) := by omega
        have i3 : (s.size : Int) ≤ (k : Int) := by omega
        have HE : Hid (∃ a er, bytesP s.data.toList = .bad a er) := Lib.hid ⟨_, _, by
          rw [HG.out, bytesG_bad (by rw [ro_pk0 (by omega)]; decide) (in_end (by omega))]⟩
        go_wp2_with fail
        go_ret3
        exact QTo.bad (k := k) HE.out rfl HB.out
  · have n34 : ¬ s[0].toNat = 34 := fun e => h34 (UInt8.toNat_inj.1 e)
    have e34 : ((s[0].toNat : Int) != 34) = true := by simp; omega
    have HE : Hid (∃ a er, bytesP s.data.toList = .bad a er) := Lib.hid (by
      unfold bytesP
      rw [if_neg (by rw [hpk0]; exact h34)]
      exact ⟨_, _, rfl⟩)
    clear h34 n34 hpk0 hL0 h0
    go_enter Tryz.func25, Tryz.ntmps25
    go_wp2_with fail
    go_ret3
    exact QTo.bad (k := 0) HE.out rfl (Below.refl _ _)
theorem ret_unq {o o' : Option (List UInt8)} (h : o = o') : Ending.returned (.tuple #[unqS o, .bool o.isSome]) = Ending.returned (.tuple #[unqS o', .bool o'.isSome]) := by rw [h]
set_option maxHeartbeats 1000000 in
theorem runquote_any (s : ByteArray) (w : World) (hs : s.size ≤ 1000000) : Calls Tryz.prog 10 #[.string s] w fun e w' => e = .returned (.tuple #[unqS (unqP s.data.toList), .bool (unqP s.data.toList).isSome]) ∧ Below w.heap.size w w' := by
  have HQ := Lib.hid (rquoted_any s w hs)
  go_enter Tryz.func10, Tryz.ntmps10
  go_wp2_with fail
  refine HQ.out.mono ?_
  rintro e w1 ⟨hb, h⟩
  have HB := Lib.hid hb
  clear hb HQ
  rcases h with ⟨a, er, k, ht, rfl⟩ | ⟨v, l, ht, rfl⟩
  · have HU : Hid (unqP s.data.toList = none) := Lib.hid (by unfold unqP; rw [ht])
    clear ht
    go_wp2_with fail
    go_ret2
    refine ⟨?_, HB.out⟩
    rw [HU.out]; rfl
  · have hsuf : s.data.toList.length = s.size := rfl
    by_cases hl : l = []
    · have HU : Hid (unqP s.data.toList = some v) := Lib.hid (by unfold unqP; rw [ht]; simp only; rw [if_pos hl])
      have hz : s.size - l.length = s.size := by rw [hl]; simp
      have e0 : ((s.size : Int) != (s.size : Int)) = false := by simp
      rw [hz]
      clear ht hl hz
      go_wp2_with fail
      go_ret2
      refine ⟨?_, HB.out⟩
      rw [HU.out]; rfl
    · have HU : Hid (unqP s.data.toList = none) := Lib.hid (by unfold unqP; rw [ht]; simp only; rw [if_neg hl])
      have hp := List.length_pos_iff.2 hl
      have hs0 : 0 < s.size := by
        rcases Nat.eq_zero_or_pos s.size with h | h
        · exfalso
          have : s.data.toList = [] := List.eq_nil_of_length_eq_zero h
          rw [this] at ht
          exact absurd ht (by simp [bytesP, pk])
        · exact h
      obtain ⟨k, hk⟩ : ∃ k, k = s.size - l.length := ⟨_, rfl⟩
      have e0 : ((k : Int) != (s.size : Int)) = true := by simp; omega
      rw [← hk]
      clear ht hl hp hk hs0
      go_wp2_with fail
      go_ret2
      refine ⟨?_, HB.out⟩
      rw [HU.out]; rfl
end Go.Proofs.YtgklnafliaplkaaGreatDoor
