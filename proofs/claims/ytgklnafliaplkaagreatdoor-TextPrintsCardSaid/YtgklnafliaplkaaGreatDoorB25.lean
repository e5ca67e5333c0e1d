/-
  text.writeRow, over whatever writes its items.
-/
import Derived.Test.YtgklnafliaplkaaGreatDoorB01
import Derived.Test.YtgklnafliaplkaaGreatDoorB06
import Derived.Deep.DeepCutAuto
namespace Go.Proofs.YtgklnafliaplkaaGreatDoor
open Go.RowKit

set_option maxHeartbeats 8000000 in
set_option maxRecDepth 100000 in
theorem writeRow_any {B b : Nat} {items : List (List UInt8)} {g : Nat} {caps : Array Value} {P : World → Prop} {M : Nat} (hM : M ≤ 9000000) (c1 c2 : UInt8)
    (eg : ∀ args w, (callFunc g args).run Tryz.prog w = .ok (.enter g args) w)
    (HI : ∀ (k : Nat) (h : k < items.length) (l : List UInt8) (w : World), Bld B b l w → P w → B ≤ w.heap.size → l.length + (items[k]).length ≤ M → Calls Tryz.prog g (#[.int .i64 (k : Nat)] ++ caps) w fun e w' => e = .returned (.tuple #[]) ∧ BldTo B b (l ++ items[k]) w w')
    (HP : ∀ w w' l, P w → BldTo B b l w w' → P w') {l : List UInt8} {w : World} (h : Bld B b l w) (hp : P w) (hBw : B ≤ w.heap.size) (hn : items.length ≤ 10000) (hlen : l.length + (rowD items).length + 2 ≤ M) :
    Calls Tryz.prog 48 #[.pointer (some ⟨b, 0, none⟩), .int .u8 c1.toNat, .int .u8 c2.toNat, .int .i64 (items.length : Nat), .func (.func g) #[] caps] w fun e w' => e = .returned (.tuple #[]) ∧ BldTo B b (l ++ (c1 :: (rowD items ++ [c2]))) w w' := by
  have HQ := Lib.hid (bbyte_any c1 h (by omega) hBw)
  have HII := Lib.hid HI; have HPP := Lib.hid HP; have HP0 := Lib.hid hp; have HLEN := Lib.hid hlen
  clear h HI HP hp hlen
  obtain ⟨N, hN⟩ : ∃ N, N = items.length := ⟨_, rfl⟩
  have HN := Lib.hid hN
  have hNN : N ≤ 10000 := by omega
  rw [← hN]
  clear hN hn
  go_enter Tryz.func48, Tryz.ntmps48
  go_wp2_with fail
  refine HQ.out.mono ?_
  rintro e w1 ⟨rfl, h1⟩
  have H1 := Lib.hid h1; have HP1 := Lib.hid (HPP.out _ _ _ HP0.out h1)
  clear h1 HQ
  go_wp2_with fail
  go_loopw [15] (fun i wr => ∃ k : Nat, k ≤ N ∧ i = .int .i64 k ∧ Hid (BldTo B b (l ++ c1 :: rowD (items.take k)) w wr) ∧ Hid (P wr)) (fun i _ => N - (intOf i).toNat)
  case atStart => exact ⟨0, Nat.zero_le _, rfl, Lib.hid (by simpa [rowD] using H1.out), HP1⟩
  case round =>
    obtain ⟨k, hk0, rfl, HB, HPr⟩ := hrel
    have hBr : B ≤ wr.heap.size := Nat.le_trans hBw HB.out.2.1.size
    by_cases hlt : k < N
    · have hki : k < items.length := by rw [← HN.out]; exact hlt
      have hik1 : (k : Int) < (N : Int) := by omega
      obtain ⟨X, hX⟩ : ∃ X, X = l ++ c1 :: rowD (items.take k) := ⟨_, rfl⟩
      obtain ⟨it, hit⟩ : ∃ it, it = items[k] := ⟨_, rfl⟩
      have hst := rowD_step items k hki
      rw [← hit] at hst
      have hXl : X.length + (if k = 0 then 0 else 2) + it.length + 1 ≤ M := by
        have h1 := rowD_take items (k + 1)
        rw [hst] at h1
        have h2 := HLEN.out
        rw [hX]
        simp only [List.length_append, List.length_cons] at h1 ⊢
        split
        · rename_i hk; rw [if_pos hk, List.length_nil] at h1; omega
        · rename_i hk; rw [if_neg hk] at h1; simp only [List.length_cons, List.length_nil] at h1; omega
      have HXS : Hid (l ++ c1 :: rowD (items.take (k + 1)) = (X ++ (if k = 0 then [] else [44, 32])) ++ it) := Lib.hid (by rw [hX, hst]; simp)
      have HCALL : Hid (∀ (l : List UInt8) (w : World), Bld B b l w → P w → B ≤ w.heap.size → l.length + it.length ≤ M → Calls Tryz.prog g (#[.int .i64 (k : Nat)] ++ caps) w fun e w' => e = .returned (.tuple #[]) ∧ BldTo B b (l ++ it) w w') := Lib.hid (by rw [hit]; exact HII.out k hki)
      rw [← hX] at HB
      clear hX hit hst
      by_cases hk : k = 0
      · have hg : ¬ (0 : Int) < (k : Int) := by omega
        rw [if_pos hk] at hXl HXS
        clear hk
        have HC2 := Lib.hid (HCALL.out X wr HB.out.bld HPr.out hBr (by omega))
        go_wp2_with fail
        refine HC2.out.mono ?_
        rintro e w2 ⟨rfl, h2⟩
        have H2 := Lib.hid (HB.out.trans h2); have HP2 := Lib.hid (HPP.out _ _ _ HPr.out h2)
        clear h2 HC2
        go_wp2_with fail
        refine ⟨⟨k + 1, by omega, by go_num, Lib.hid (by rw [HXS.out, List.append_nil]; exact H2.out), HP2⟩, by simp [intOf]; omega⟩
      · have hg : (0 : Int) < (k : Int) := by omega
        rw [if_neg hk] at hXl HXS
        clear hk
        go_wp2_with fail
        refine (bstring_any ⟨#[44, 32]⟩ HB.out.bld (by show _ + 2 ≤ _; omega) hBr).mono ?_
        rintro e w2 ⟨rfl, h2⟩
        have H2 : Hid (BldTo B b (X ++ [44, 32]) w w2) := Lib.hid (HB.out.trans h2)
        have HP2 := Lib.hid (HPP.out _ _ _ HPr.out h2)
        have hB2 : B ≤ w2.heap.size := Nat.le_trans hBr h2.2.1.size
        have HC2 := Lib.hid (HCALL.out (X ++ [44, 32]) w2 H2.out.bld HP2.out hB2 (by simp; omega))
        clear h2
        go_wp2_with fail
        refine HC2.out.mono ?_
        rintro e w3 ⟨rfl, h3⟩
        have H3 := Lib.hid (H2.out.trans h3); have HP3 := Lib.hid (HPP.out _ _ _ HP2.out h3)
        clear h3 HC2
        go_wp2_with fail
        refine ⟨⟨k + 1, by omega, by go_num, Lib.hid (by rw [HXS.out]; exact H3.out), HP3⟩, by simp [intOf]; omega⟩
    · have hkl : k = N := by omega
      subst hkl
      have hall : items.take k = items := by rw [HN.out]; exact List.take_length
      rw [hall] at HB
      have hll : (l ++ c1 :: rowD items).length + 1 ≤ 140737488355328 := by have := HLEN.out; simp; omega
      clear hall
      go_wp2_with fail
      refine (bbyte_any c2 HB.out.bld hll hBr).mono ?_
      rintro e w3 ⟨rfl, h3⟩
      have H3 := Lib.hid (HB.out.trans h3)
      clear h3
      go_wp2_with fail
      go_end0
      exact ⟨rfl, by have h := H3.out; simpa using h⟩
end Go.Proofs.YtgklnafliaplkaaGreatDoor
