/-
  The document's own hex and Quote.
-/
import Derived.Test.YtgklnafliaplkaaGreatDoorB01
import Derived.Test.YtgklnafliaplkaaGreatDoorProg
import Derived.Lib.Hide
import Derived.StillTailTactics
import Derived.IntWalk
import Derived.Deep.Cut
import Derived.Deep.CutRange
import Derived.Deep.RegionLaw
namespace Go.Proofs.YtgklnafliaplkaaGreatDoor
open Go.RowKit

theorem r_hex_at : ∀ n : Fin 16, (⟨#[48, 49, 50, 51, 52, 53, 54, 55, 56, 57, 97, 98, 99, 100, 101, 102]⟩ : ByteArray)[n.val]'(n.isLt) = UInt8.ofNat (hexD n.val) := by decide
set_option maxHeartbeats 2000000 in
set_option maxRecDepth 100000 in
theorem rhex_any (c : UInt8) (w : World) : Calls Tryz.prog 33 #[.int .u8 (c.toNat : Int)] w fun e w' => e = .returned (.string ⟨#[UInt8.ofNat (hexD (c.toNat / 16)), UInt8.ofNat (hexD (c.toNat % 16))]⟩) ∧ Below w.heap.size w w' := by
  have hc8 : c.toNat < 256 := c.toNat_lt
  have hd0 : (0 : Int) ≤ (c.toNat : Int) / 16 := by omega
  have hd1 : (c.toNat : Int) / 16 < 16 := by omega
  have hd2 : c.toNat / 16 < 16 := by omega
  have hm2 : c.toNat % 16 < 16 := by omega
  have hm0 : (0 : Int) ≤ (c.toNat : Int) % 16 := by omega
  have hm1 : (c.toNat : Int) % 16 < 16 := by omega
  have hw : IntKind.u8.wrap ((c.toNat : Int) / 16) = (c.toNat : Int) / 16 := IntWalk.u8_in _ (by omega)
  have ht : (c.toNat : Int).tmod 16 = (c.toNat : Int) % 16 := Int.tmod_eq_emod_of_nonneg (by omega)
  have e16 := r_hex_at ⟨c.toNat / 16, hd2⟩
  have em := r_hex_at ⟨c.toNat % 16, hm2⟩
  simp only at e16 em
  rw [← e16, ← em]
  clear e16 em
  go_enter Tryz.func33, Tryz.ntmps33
  go_wp2_with fail
  refine wp_region_still_tail 8 (by kernel_rfl) (by kernel_rfl) ?_
  change wpStill _ _ (World.drew w) (fun a' => wpList _ _ _ _ a' (World.drew w)) _ _
  simp only [List.take_succ_cons, List.take_zero, List.drop_succ_cons, List.drop_zero]
  repeat still_step
  refine wpStill_nil ?_
  go_wp2_with fail
  rw [run_conv2d _ rfl]
  simp only [Result.andThen]
  rw [Oper.upon_value]
  go_wp2_with fail
  go_ret
  refine ⟨rfl, ?_⟩
  exact ((Below.refl _ _).drew).alloc (Nat.le_refl _) _
theorem r_take_byte {s : ByteArray} {k : Nat} (h : k < s.size) : s.data.toList.take (k + 1) = s.data.toList.take k ++ [s[k]] := by
  rw [List.take_succ_eq_append_getElem (by simpa using h)]; rfl
set_option maxHeartbeats 2000000 in
set_option maxRecDepth 100000 in
theorem rQuote_any (s : ByteArray) (w : World) (hs : s.size ≤ 1000000) :
    Calls Tryz.prog 16 #[.string s] w fun e w' => e = .returned (.string ⟨(quoteL s.data.toList).toArray⟩) ∧ Below w.heap.size w w' := by
  go_enter Tryz.func16, Tryz.ntmps16
  go_wp2_with fail
  go_loopw [3, 4] (fun q i wr => ∃ k : Nat, k ≤ s.size ∧ q = .string ⟨(quoteI (s.data.toList.take k)).toArray⟩ ∧ i = .int .i64 k ∧ Hid (Below w.heap.size w wr)) (fun _ i _ => s.size - (intOf i).toNat)
  case atStart => exact ⟨0, Nat.zero_le _, by simp [quoteI], rfl, Lib.hid (Below.refl _ _)⟩
  case round =>
    obtain ⟨k, hk0, rfl, rfl, HB⟩ := hrel
    have hzr := HB.out.size
    by_cases hlt : k < s.size
    · have hik0 : (0 : Int) ≤ (k : Int) := by omega
      have hik1 : (k : Int) < (s.size : Int) := by omega
      obtain ⟨c, hc⟩ : ∃ c, c = s[k] := ⟨_, rfl⟩
      have HSUC : Hid (quoteI (s.data.toList.take (k + 1)) = quoteI (s.data.toList.take k) ++ quoteC c) := Lib.hid (by rw [r_take_byte hlt, quoteI_snoc, hc])
      go_upto_region 6 with fail
      rw [← hc]
      clear hc
      obtain ⟨X, hX⟩ : ∃ X, X = quoteI (s.data.toList.take k) := ⟨_, rfl⟩
      have hXl : X.length ≤ 4000000 := by
        have h1 := quoteI_len (s.data.toList.take k)
        have h2 := List.length_take_le k s.data.toList
        rw [← hX] at h1; omega
      have hXz : (⟨X.toArray⟩ : ByteArray).size ≤ 4000000 := by show X.toArray.size ≤ _; simpa using hXl
      rw [← hX] at HSUC ⊢
      clear hX
      go_cut [20] from 15 to 19 (fun s20 wx => s20 = .bool (decide (c.toNat = 34 ∨ c.toNat = 92)) ∧ wx = wr)
      case first =>
        by_cases h34 : c.toNat = 34
        · have e1 : ((c.toNat : Int) == 34) = true := by simp; omega
          go_wp2_with fail
          go_meet
          exact ⟨by simp [h34], rfl⟩
        · have e1 : ((c.toNat : Int) == 34) = false := by simp; omega
          by_cases h92 : c.toNat = 92
          · have e2 : ((c.toNat : Int) == 92) = true := by simp; omega
            go_wp2_with fail
            go_meet
            exact ⟨by simp [h92], rfl⟩
          · have e2 : ((c.toNat : Int) == 92) = false := by simp; omega
            go_wp2_with fail
            go_meet
            exact ⟨by simp [h34, h92], rfl⟩
      case rest =>
        obtain ⟨rfl, rfl⟩ := hcut
        by_cases hq : c.toNat = 34 ∨ c.toNat = 92
        · rw [decide_eq_true hq]
          have HE : Hid (quoteC c = [92, c]) := Lib.hid (by unfold quoteC; rw [if_pos hq])
          clear hq
          have ec := run_conv2 wc (g := wc.heap.size) rfl 92 c
          rw [show (((92 : UInt8).toNat : Nat) : Int) = 92 from rfl] at ec
          go_wp2_with fail
          refine ⟨⟨k + 1, by omega, by rw [HSUC.out, HE.out, ← str_append], by go_num, Lib.hid (HB.out.alloc hzr _)⟩, by simp [intOf]; omega⟩
        · rw [decide_eq_false hq]
          go_upto_region 8 with fail
          by_cases h126 : 32 ≤ c.toNat ∧ c.toNat ≤ 126
          · have e3 : decide ((c.toNat : Int) ≥ 32) = true := by simp; omega
            have e3' : (32 : Int) ≤ (c.toNat : Int) := by omega
            have e4 : (c.toNat : Int) ≤ 126 := by omega
            have HE : Hid (quoteC c = [c]) := Lib.hid (by unfold quoteC; rw [if_neg hq, if_pos h126])
            have ec := run_conv1 wc (g := wc.heap.size) rfl c
            clear hq h126
            go_wp2_with fail
            refine ⟨⟨k + 1, by omega, by rw [HSUC.out, HE.out, ← str_append], by go_num, Lib.hid (HB.out.alloc hzr _)⟩, by simp [intOf]; omega⟩
          · have HE : Hid (quoteC c = [92, 120] ++ [UInt8.ofNat (hexD (c.toNat / 16)), UInt8.ofNat (hexD (c.toNat % 16))]) := Lib.hid (by unfold quoteC; rw [if_neg hq, if_neg h126]; rfl)
            clear hq
            obtain ⟨ha, hha⟩ : ∃ ha, ha = UInt8.ofNat (hexD (c.toNat / 16)) := ⟨_, rfl⟩
            obtain ⟨hb, hhb⟩ : ∃ hb, hb = UInt8.ofNat (hexD (c.toNat % 16)) := ⟨_, rfl⟩
            have HX : Hid (∀ W, Calls Tryz.prog 33 #[.int .u8 (c.toNat : Int)] W fun e w' => e = .returned (.string ⟨#[ha, hb]⟩) ∧ Below W.heap.size W w') := Lib.hid (fun W => by rw [hha, hhb]; exact rhex_any c W)
            rw [← hha, ← hhb] at HE
            clear hha hhb
            go_cut [31] from 26 to 30 (fun s31 wx => s31 = .bool false ∧ wx = wc)
            case first =>
              by_cases h32 : 32 ≤ c.toNat
              · have e3' : (32 : Int) ≤ (c.toNat : Int) := by omega
                have e4 : ¬ (c.toNat : Int) ≤ 126 := by omega
                clear h126
                go_wp2_with fail
                go_meet
                exact ⟨rfl, rfl⟩
              · have e3' : ¬ (32 : Int) ≤ (c.toNat : Int) := by omega
                clear h126
                go_wp2_with fail
                go_meet
                exact ⟨rfl, rfl⟩
            case rest =>
              clear h126
              obtain ⟨rfl, rfl⟩ := hcut

              go_wp2_with fail
              have ec1 : (convert 41 9 (.slice (some ⟨wc.heap.size, 0, none⟩) 2 2)).run Tryz.prog (wc.alloc (.cells #[.int .u8 92, .int .u8 120] 5)).drew = .ok (.string ⟨#[92, 120]⟩) (wc.alloc (.cells #[.int .u8 92, .int .u8 120] 5)).drew := run_conv2d wc rfl 92 120
              have hca : ¬ 9223372036854775807 < X.length + 2 := by omega
              have hcb : ¬ 9223372036854775807 < X.length + 2 + 2 := by omega
              go_region_law (
                (go_wp2_with fail
                 go_at_call 33
                 refine (HX.out _).mono ?_
                 rintro e w5 ⟨rfl, hb5⟩
                 have ec2 : (convert 41 9 (.slice (some ⟨w5.heap.size, 0, none⟩) 2 2)).run Tryz.prog (w5.alloc (.cells #[.int .u8 92, .int .u8 120] 5)) = .ok (.string ⟨#[92, 120]⟩) (w5.alloc (.cells #[.int .u8 92, .int .u8 120] 5)) := run_conv2 w5 rfl 92 120
                 first
                   | (have hz5 : wc.heap.size < w5.heap.size := by (have h1 : (World.alloc wc _).heap.size ≤ w5.heap.size := hb5.size; rw [World.size_alloc] at h1; omega)
                      have ec3 : (convert 41 9 (.slice (some ⟨wc.heap.size, 0, none⟩) 2 2)).run Tryz.prog w5 = .ok (.string ⟨#[92, 120]⟩) w5 := run_conv2at w5 wc.heap.size 92 120 ((hb5.cell (p := ⟨wc.heap.size, 0, none⟩) (by show wc.heap.size < (World.alloc wc _).heap.size; rw [World.size_alloc]; omega)).trans (World.cell?_alloc_mark wc _ _ _ 0)) ((hb5.cell (p := ⟨wc.heap.size, 1, none⟩) (by show wc.heap.size < (World.alloc wc _).heap.size; rw [World.size_alloc]; omega)).trans (World.cell?_alloc_mark wc _ _ _ 1)))
                   | skip))
              all_goals (go_wp2_with fail)
              all_goals (
                refine ⟨⟨k + 1, by omega, by rw [HSUC.out, HE.out, ← List.append_assoc, ← str_append, ← str_append], by go_num, Lib.hid ?_⟩, by simp [intOf]; omega⟩)
              all_goals first
                | exact HB.out.trans (((Below.refl _ wc).drew.trans hb5).mono hzr)
                | exact HB.out.trans ((((Below.refl _ wc).alloc (Nat.le_refl _) _).drew.trans (hb5.mono (by show _ ≤ (World.alloc wc _).heap.size; rw [World.size_alloc]; omega))).mono hzr)
                | exact (HB.out.trans (((Below.refl _ wc).drew.trans hb5).mono hzr)).alloc (Nat.le_trans hzr hb5.size) _
    · have hkl : k = s.size := by omega
      subst hkl
      have hall : s.data.toList.take s.size = s.data.toList := List.take_of_length_le (by simp)
      rw [hall]
      obtain ⟨X, hX⟩ : ∃ X, X = quoteI s.data.toList := ⟨_, rfl⟩
      have hXl : X.length ≤ 4000000 := by
        have h1 := quoteI_len s.data.toList
        have h2 : s.data.toList.length = s.size := by simp
        rw [← hX] at h1; omega
      have hXz : (⟨X.toArray⟩ : ByteArray).size ≤ 4000000 := by show X.toArray.size ≤ _; simpa using hXl
      rw [← hX]
      have HX := Lib.hid hX
      clear hX hall
      have ec1 : (convert 41 9 (.slice (some ⟨wr.heap.size, 0, none⟩) 1 1)).run Tryz.prog (wr.alloc (.cells #[.int .u8 34] 5)) = .ok (.string ⟨#[34]⟩) (wr.alloc (.cells #[.int .u8 34] 5)) := run_conv1 wr rfl 34
      have ec2 : (convert 41 9 (.slice (some ⟨wr.heap.size + 1, 0, none⟩) 1 1)).run Tryz.prog ((wr.alloc (.cells #[.int .u8 34] 5)).alloc (.cells #[.int .u8 34] 5)) = .ok (.string ⟨#[34]⟩) ((wr.alloc (.cells #[.int .u8 34] 5)).alloc (.cells #[.int .u8 34] 5)) := run_conv1 (wr.alloc _) (by simp) 34
      go_wp2_with fail
      go_ret
      refine ⟨?_, (HB.out.alloc hzr _).alloc (by rw [World.size_alloc]; omega) _⟩
      have e1 : (⟨#[34]⟩ : ByteArray) ++ ⟨X.toArray⟩ = ⟨([34] ++ X).toArray⟩ := str_append [34] X
      have e2 : (⟨([34] ++ X).toArray⟩ : ByteArray) ++ ⟨#[34]⟩ = ⟨(([34] ++ X) ++ [34]).toArray⟩ := str_append _ [34]
      rw [e1, e2, HX.out]; rfl
end Go.Proofs.YtgklnafliaplkaaGreatDoor
