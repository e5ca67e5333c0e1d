/-
  The law's own case of layer 2 is true.
-/
import Derived.Test.YtgklnafliaplkaaGreatDoorB23
import Derived.Test.YtgklnafliaplkaaGreatDoorB24
import Derived.Test.YtgklnafliaplkaaGreatDoorB27
namespace Go.Proofs.YtgklnafliaplkaaGreatDoor
open Go.RowKit

def S1 : ByteArray := ⟨#[123, 32, 98, 32, 61, 32, 91, 49, 44, 45, 50, 93, 44, 32, 97, 32, 61, 32, 60, 34, 120, 34, 58, 116, 114, 117, 101, 62, 32, 125]⟩
def D1 : D := .mk 1 0 ⟨#[]⟩ [⟨#[97]⟩, ⟨#[98]⟩] [.mk 2 0 ⟨#[]⟩ [⟨#[120]⟩] [.mk 5 1 ⟨#[]⟩ [] []], .mk 3 0 ⟨#[]⟩ [] [.mk 4 1 ⟨#[]⟩ [] [], .mk 4 (-2) ⟨#[]⟩ [] []]]
theorem print1 : printD D1 = [123, 97, 32, 61, 32, 60, 34, 120, 34, 58, 32, 116, 114, 117, 101, 62, 44, 32, 98, 32, 61, 32, 91, 49, 44, 32, 45, 50, 93, 125] := by kernel_rfl
set_option maxRecDepth 100000 in
theorem fit1 : D1.Fit := by simp only [D1, D.Fit, D.Fits]; decide
theorem nums1 : D1.Nums := by simp [D1, D.Nums, D.NumsL]
theorem unq1 : unqP (quoteL [97, 34, 92, 0]) = some [97, 34, 92, 0] := by kernel_rfl
theorem quote127 : quoteL [127] = [34, 92, 120, 55, 102, 34] := by kernel_rfl
theorem num1 : numP [45, 57, 50, 50, 51, 51, 55, 50, 48, 51, 54, 56, 53, 52, 55, 55, 53, 56, 48, 56] = some (-9223372036854775808) := by kernel_rfl
theorem num2 : numP [57, 50, 50, 51, 51, 55, 50, 48, 51, 54, 56, 53, 52, 55, 55, 53, 56, 48, 56] = none := by kernel_rfl
theorem parse1 {w : World} (hg : TG w) : Calls Tryz.prog 18 #[.string ⟨#[123, 32, 98, 32, 61, 32, 91, 49, 44, 45, 50, 93, 44, 32, 97, 32, 61, 32, 60, 34, 120, 34, 58, 116, 114, 117, 101, 62, 32, 125]⟩] w fun e w' => Below w.heap.size w w' ∧ ∃ (v0 v1 v2 v3 v4 : Value) (F : List Nat), e = .returned (.tuple #[.agg #[v0, v1, v2, v3, v4], .int .i64 30, .int .i64 0]) ∧ OwnIn w' w.heap.size D1 v0 v1 v2 v3 v4 F ∧ F.Nodup := by
  refine Calls.mono (Parse_any (w := w) ⟨#[123, 32, 98, 32, 61, 32, 91, 49, 44, 45, 50, 93, 44, 32, 97, 32, 61, 32, 60, 34, 120, 34, 58, 116, 114, 117, 101, 62, 32, 125]⟩ (by decide) hg) ?_
  intro e w' h
  have h0 : readP (⟨#[123, 32, 98, 32, 61, 32, 91, 49, 44, 45, 50, 93, 44, 32, 97, 32, 61, 32, 60, 34, 120, 34, 58, 116, 114, 117, 101, 62, 32, 125]⟩ : ByteArray).data.toList = .ok D1 [] := own1
  rw [h0] at h
  exact h
theorem parse2 {w : World} (hg : TG w) : Calls Tryz.prog 18 #[.string ⟨#[91, 49, 44, 32, 48, 50, 93]⟩] w fun e w' => Below w.heap.size w w' ∧ e = .returned (.tuple #[.agg #[.int .i64 0, .int .i64 0, .string ⟨#[]⟩, .slice none 0 0, .slice none 0 0], .int .i64 5, .int .i64 4]) := by
  refine Calls.mono (Parse_any (w := w) ⟨#[91, 49, 44, 32, 48, 50, 93]⟩ (by decide) hg) ?_
  intro e w' h
  have h0 : readP (⟨#[91, 49, 44, 32, 48, 50, 93]⟩ : ByteArray).data.toList = .bad [50, 93] 4 := own2
  rw [h0] at h
  exact h
theorem parse3 {w : World} (hg : TG w) : Calls Tryz.prog 18 #[.string ⟨#[123, 97, 32, 61, 32, 49, 44, 32, 97, 32, 61, 32, 50, 125]⟩] w fun e w' => Below w.heap.size w w' ∧ e = .returned (.tuple #[.agg #[.int .i64 0, .int .i64 0, .string ⟨#[]⟩, .slice none 0 0, .slice none 0 0], .int .i64 8, .int .i64 5]) := by
  refine Calls.mono (Parse_any (w := w) ⟨#[123, 97, 32, 61, 32, 49, 44, 32, 97, 32, 61, 32, 50, 125]⟩ (by decide) hg) ?_
  intro e w' h
  have h0 : readP (⟨#[123, 97, 32, 61, 32, 49, 44, 32, 97, 32, 61, 32, 50, 125]⟩ : ByteArray).data.toList = .bad [97, 32, 61, 32, 50, 125] 5 := own3
  rw [h0] at h
  exact h
theorem quote1 (w : World) : Calls Tryz.prog 15 #[.string ⟨#[97, 34, 92, 0]⟩] w fun e w' => e = .returned (.string ⟨(quoteL [97, 34, 92, 0]).toArray⟩) ∧ Below w.heap.size w w' := Quote_any ⟨#[97, 34, 92, 0]⟩ w (by decide)
theorem unquote1 {w : World} (hg : TG w) : Calls Tryz.prog 9 #[.string ⟨(quoteL [97, 34, 92, 0]).toArray⟩] w fun e w' => e = .returned (.tuple #[.string ⟨#[97, 34, 92, 0]⟩, .bool true]) ∧ Below w.heap.size w w' := by
  refine Calls.mono (Unquote_any (w := w) ⟨(quoteL [97, 34, 92, 0]).toArray⟩ (by decide) hg) ?_
  intro e w' h
  have h0 : unqP (⟨(quoteL [97, 34, 92, 0]).toArray⟩ : ByteArray).data.toList = some [97, 34, 92, 0] := unq1
  rw [h0] at h
  exact h
theorem number1 {w : World} (hg : TG w) : Calls Tryz.prog 11 #[.string ⟨#[45, 57, 50, 50, 51, 51, 55, 50, 48, 51, 54, 56, 53, 52, 55, 55, 53, 56, 48, 56]⟩] w fun e w' => e = .returned (.tuple #[.int .i64 (-9223372036854775808), .bool true]) ∧ Below w.heap.size w w' := by
  refine Calls.mono (Number_any (w := w) ⟨#[45, 57, 50, 50, 51, 51, 55, 50, 48, 51, 54, 56, 53, 52, 55, 55, 53, 56, 48, 56]⟩ (by decide) hg) ?_
  intro e w' h
  have h0 : numP (⟨#[45, 57, 50, 50, 51, 51, 55, 50, 48, 51, 54, 56, 53, 52, 55, 55, 53, 56, 48, 56]⟩ : ByteArray).data.toList = some (-9223372036854775808) := num1
  rw [h0] at h
  exact h
theorem number2 {w : World} (hg : TG w) : Calls Tryz.prog 11 #[.string ⟨#[57, 50, 50, 51, 51, 55, 50, 48, 51, 54, 56, 53, 52, 55, 55, 53, 56, 48, 56]⟩] w fun e w' => e = .returned (.tuple #[.int .i64 0, .bool false]) ∧ Below w.heap.size w w' := by
  refine Calls.mono (Number_any (w := w) ⟨#[57, 50, 50, 51, 51, 55, 50, 48, 51, 54, 56, 53, 52, 55, 55, 53, 56, 48, 56]⟩ (by decide) hg) ?_
  intro e w' h
  have h0 : numP (⟨#[57, 50, 50, 51, 51, 55, 50, 48, 51, 54, 56, 53, 52, 55, 55, 53, 56, 48, 56]⟩ : ByteArray).data.toList = none := num2
  rw [h0] at h
  exact h
theorem printS {v0 v1 v2 v3 v4 : Value} {BB : Nat} {w : World} (hd : DocIn w BB D1 v0 v1 v2 v3 v4) (hBB : BB ≤ w.heap.size) (hg : TG w) :
    Calls Tryz.prog 13 #[.agg #[v0, v1, v2, v3, v4]] w fun e w' => e = .returned (.string ⟨#[123, 97, 32, 61, 32, 60, 34, 120, 34, 58, 32, 116, 114, 117, 101, 62, 44, 32, 98, 32, 61, 32, 91, 49, 44, 32, 45, 50, 93, 125]⟩) ∧ Below w.heap.size w w' := by
  have h := Print_any fit1 nums1 hd hBB hg (by rw [print1]; decide)
  rw [print1] at h
  exact h
theorem quote2 (w : World) : Calls Tryz.prog 15 #[.string ⟨#[127]⟩] w fun e w' => e = .returned (.string ⟨#[34, 92, 120, 55, 102, 34]⟩) ∧ Below w.heap.size w w' := by
  have h := Quote_any ⟨#[127]⟩ w (by decide)
  have h0 : quoteL (⟨#[127]⟩ : ByteArray).data.toList = [34, 92, 120, 55, 102, 34] := quote127
  rw [h0] at h
  exact h
set_option maxHeartbeats 8000000 in
set_option maxRecDepth 100000 in
theorem tx_small {w : World} (hg : TG w) : Calls Tryz.prog 7 #[] w fun e w' => e = .returned (.bool true) ∧ Below w.heap.size w w' := by
  have HG := Lib.hid hg
  clear hg
  go_enter Tryz.func7, Tryz.ntmps7
  go_wp2_with fail
  refine (parse1 HG.out).mono ?_
  rintro e w1 ⟨hb1, y0, y1, y2, y3, y4, F, rfl, hO, hF⟩
  obtain ⟨A7, c7, A8, c8, rfl, rfl, rfl, rfl, rfl⟩ := hO.doc.forms
  have HB1 := Lib.hid hb1; have HO := Lib.hid hO
  have hG1 := HG.out.next hb1
  have HG1 := Lib.hid hG1
  clear hb1 hO hF hG1
  go_wp2_with fail
  obtain ⟨W1, hW1⟩ : ∃ W, W = w1.alloc (.cells #[.int .i64 D1.kind, .int .i64 D1.num, .string D1.str, .slice A7 D1.keys.length c7, .slice A8 D1.kids.length c8] 25) := ⟨_, rfl⟩
  have hbW1 : Below w1.heap.size w1 W1 := by rw [hW1]; exact (Below.refl _ _).alloc (Nat.le_refl _) _
  have hbx : Box5 W1 w1.heap.size (.int .i64 D1.kind) (.int .i64 D1.num) (.string D1.str) (.slice A7 D1.keys.length c7) (.slice A8 D1.kids.length c8) := by rw [hW1]; exact heap_alloc_new w1 _
  have hd1 : DocIn W1 w1.heap.size D1 (.int .i64 D1.kind) (.int .i64 D1.num) (.string D1.str) (.slice A7 D1.keys.length c7) (.slice A8 D1.kids.length c8) := HO.out.doc.below hbW1
  have HW1 := Lib.hid (HG1.out.next hbW1)
  have HBX := Lib.hid hbx; have HD1 := Lib.hid hd1
  have HA1 := Lib.hid (HB1.out.trans (hbW1.mono HB1.out.size))
  have hlt : w1.heap.size < W1.heap.size := hbx.lt
  rw [← hW1]
  clear hW1 hbW1 hbx hd1
  obtain ⟨nb, hnb⟩ : ∃ nb, nb = w1.heap.size := ⟨_, rfl⟩
  rw [← hnb] at HBX HD1 hlt ⊢
  clear hnb
  refine (parse2 HW1.out).mono ?_
  rintro e w2 ⟨hb2, rfl⟩
  have HB2 := Lib.hid hb2
  have HG2 := Lib.hid (HW1.out.next hb2)
  clear hb2
  go_wp2_with fail
  obtain ⟨W2, hW2⟩ : ∃ W, W = w2.alloc (.cells #[.int .i64 0, .int .i64 0, .string ⟨#[]⟩, .slice none 0 0, .slice none 0 0] 25) := ⟨_, rfl⟩
  have hbW2 : Below w2.heap.size w2 W2 := by rw [hW2]; exact (Below.refl _ _).alloc (Nat.le_refl _) _
  have HC2 := Lib.hid (HB2.out.trans (hbW2.mono HB2.out.size))
  have HW2 := Lib.hid (HG2.out.next hbW2)
  rw [← hW2]
  clear hW2 hbW2
  refine (parse3 HW2.out).mono ?_
  rintro e w3 ⟨hb3, rfl⟩
  have HB3 := Lib.hid (HC2.out.trans (hb3.mono HC2.out.size))
  have HG3 := Lib.hid (HW2.out.next hb3)
  clear hb3
  go_wp2_with fail
  obtain ⟨W3, hW3⟩ : ∃ W, W = w3.alloc (.cells #[.int .i64 0, .int .i64 0, .string ⟨#[]⟩, .slice none 0 0, .slice none 0 0] 25) := ⟨_, rfl⟩
  have hbW3 : Below w3.heap.size w3 W3 := by rw [hW3]; exact (Below.refl _ _).alloc (Nat.le_refl _) _
  have HC3 := Lib.hid (HB3.out.trans (hbW3.mono HB3.out.size))
  have HW3 := Lib.hid (HG3.out.next hbW3)
  rw [← hW3]
  clear hW3 hbW3
  refine (quote1 W3).mono ?_
  rintro e w4 ⟨rfl, hb⟩
  have HC4 := Lib.hid (HC3.out.trans (hb.mono HC3.out.size))
  have HW4 := Lib.hid (HW3.out.next hb)
  clear hb
  go_wp2_with fail
  refine (unquote1 HW4.out).mono ?_
  rintro e w5 ⟨rfl, hb⟩
  have HC5 := Lib.hid (HC4.out.trans (hb.mono HC4.out.size))
  have HW5 := Lib.hid (HW4.out.next hb)
  clear hb
  go_wp2_with fail
  refine (number1 HW5.out).mono ?_
  rintro e w6 ⟨rfl, hb⟩
  have HC6 := Lib.hid (HC5.out.trans (hb.mono HC5.out.size))
  have HW6 := Lib.hid (HW5.out.next hb)
  clear hb
  go_wp2_with fail
  refine (number2 HW6.out).mono ?_
  rintro e w7 ⟨rfl, hb⟩
  have HC7 := Lib.hid (HC6.out.trans (hb.mono HC6.out.size))
  have HW7 := Lib.hid (HW6.out.next hb)
  clear hb
  have hx7 := HBX.out.same (w' := w7) (HC7.out.block nb hlt)
  obtain ⟨f0, f1, f2, f3, f4⟩ := hx7.cells
  clear hx7
  go_wp2_with fail
  refine (printS (BB := nb) (HD1.out.keep (Nat.le_refl _) fun p hp => HC7.out.cell (by omega)) (by have := HC7.out.size; omega) HW7.out).mono ?_
  rintro e w8 ⟨rfl, hb⟩
  have HC8 := Lib.hid (HC7.out.trans (hb.mono HC7.out.size))
  clear hb f0 f1 f2 f3 f4
  go_wp2_with fail
  refine (quote2 w8).mono ?_
  rintro e w9 ⟨rfl, hb⟩
  have HC9 := Lib.hid (HC8.out.trans (hb.mono HC8.out.size))
  clear hb
  go_wp2_with fail
  go_ret
  exact ⟨rfl, HA1.out.trans (HC9.out.mono HA1.out.size)⟩
end Go.Proofs.YtgklnafliaplkaaGreatDoor
