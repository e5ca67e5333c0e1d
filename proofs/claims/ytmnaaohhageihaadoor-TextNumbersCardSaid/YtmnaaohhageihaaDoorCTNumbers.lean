/-
  TextNumbers: a number's text reads as that number, no two numbers' texts are the same, and what reads as a number is that number's text.
-/
import Derived.Test.YtmnaaohhageihaaDoorCTxSmall
import Derived.Test.YtmnaaohhageihaaDoorCNumQ
import Derived.Test.YtmnaaohhageihaaDoorB07
import Derived.Lib.ItoaLen
namespace Go.Proofs.YtmnaaohhageihaaDoor
open Go.RowKit

def intB (n : Int) : ByteArray := ⟨(Lib.itoa n).toArray⟩
/-- A number. -/
def I64 (n : Int) : Prop := -9223372036854775808 ≤ n ∧ n ≤ 9223372036854775807
theorem intB_size {n : Int} (h : I64 n) : (intB n).size ≤ 21 := by
  have h1 := Lib.itoa_length_le n h.1 h.2
  show (Lib.itoa n).toArray.size ≤ 21
  simpa using h1
theorem bytes_inj' {a b : ByteArray} (h : a.data.toList = b.data.toList) : a = b := by
  cases a; cases b; simp only [ByteArray.mk.injEq]; exact Array.toList_inj.1 h
theorem intB_inj {a b : Int} (ha : I64 a) (hb : I64 b) : intB a = intB b ↔ a = b := by
  refine ⟨fun h => itoa_inj ha.1 ha.2 hb.1 hb.2 ?_, fun h => by rw [h]⟩
  have := congrArg (fun x : ByteArray => x.data.toList) h
  simpa [intB] using this
theorem numD (n : Int) : printD (.mk 4 n ⟨#[]⟩ [] []) = Lib.itoa n := by simp [printD, nodeD]
theorem print_int {n : Int} {v0 v1 v2 v3 v4 : Value} {BB : Nat} {w : World} (hn : I64 n) (hd : DocIn w BB (.mk 4 n ⟨#[]⟩ [] []) v0 v1 v2 v3 v4) (hBB : BB ≤ w.heap.size) (hg : TG w) :
    Calls Tryd.prog 8 #[.agg #[v0, v1, v2, v3, v4]] w fun e w' => e = .returned (.string (intB n)) ∧ Below w.heap.size w w' := by
  have hl := Lib.itoa_length_le n hn.1 hn.2
  have h := Print_any (d := .mk 4 n ⟨#[]⟩ [] []) (by simp only [D.Fit, D.Fits]; decide) (by simp only [D.Nums, D.NumsL, and_true]; exact hn) hd hBB hg (by rw [numD]; omega)
  rw [numD] at h
  exact h
theorem number_of {w : World} {n : Int} (hn : I64 n) (hg : TG w) : Calls Tryd.prog 10 #[.string (intB n)] w fun e w' => e = .returned (.tuple #[.int .i64 n, .bool true]) ∧ Below w.heap.size w w' := by
  have hz := intB_size hn
  refine Calls.mono (Number_any (w := w) (intB n) (by omega) hg) ?_
  intro e w' h
  have h0 : numP (intB n).data.toList = some n := numP_itoa hn.1 hn.2
  rw [h0] at h
  exact h
/-- What Number tells of a string. -/
def NumTo (s : ByteArray) (m : Int) (is : Bool) : Prop := (is = true ∧ I64 m ∧ intB m = s) ∨ (is = false ∧ m = 0)
theorem number_to {w : World} {s : ByteArray} (hs : s.size ≤ 140737488351232) (hg : TG w) : Calls Tryd.prog 10 #[.string s] w fun e w' => (∃ m is, e = .returned (.tuple #[.int .i64 m, .bool is]) ∧ NumTo s m is) ∧ Below w.heap.size w w' := by
  refine Calls.mono (Number_any (w := w) s hs hg) ?_
  rintro e w' ⟨h, hb⟩
  refine ⟨?_, hb⟩
  cases hx : numP s.data.toList with
  | none => rw [hx] at h; exact ⟨0, false, h, .inr ⟨rfl, rfl⟩⟩
  | some m =>
    rw [hx] at h
    refine ⟨m, true, h, .inl ⟨rfl, num_bounds hx, bytes_inj' ?_⟩⟩
    show (Lib.itoa m).toArray.toList = _
    rw [itoa_of_num hx]
set_option maxHeartbeats 8000000 in
set_option maxRecDepth 100000 in
theorem tnumbers_law {a b : Int} {s : ByteArray} (ha : I64 a) (hb : I64 b) (hs : s.size ≤ 140737488351232) {w : World} (hg : TG w) : Calls Tryd.prog 4 #[.int .i64 a, .int .i64 b, .string s] w fun e w' => e = .returned (.bool true) ∧ Below w.heap.size w w' := by
  have HG := Lib.hid hg; have IA := Lib.hid ha; have IB := Lib.hid hb
  clear hg ha hb
  go_enter Tryd.func4, Tryd.ntmps4
  go_wp2_with fail
  refine (tx_small HG.out).mono ?_
  rintro e w1 ⟨rfl, hb1⟩
  have HB1 := Lib.hid hb1
  have HG1 := Lib.hid (HG.out.next hb1)
  clear hb1
  go_wp2_with fail
  refine (int_v a w1).mono ?_
  rintro e w2 ⟨y0, y1, y2, y3, y4, F, rfl, hO, hF, hb2⟩
  obtain ⟨A7, c7, A8, c8, rfl, rfl, rfl, rfl, rfl⟩ := hO.doc.forms
  have HB2 := Lib.hid (HB1.out.trans (hb2.mono HB1.out.size))
  have HG2 := Lib.hid (HG1.out.next hb2)
  have HO2 := Lib.hid hO
  clear hO hF hb2
  go_wp2_with fail
  refine (print_int IA.out HO2.out.doc (Nat.le_refl _) HG2.out).mono ?_
  rintro e w3 ⟨rfl, hb3⟩
  have HB3 := Lib.hid (HB2.out.trans (hb3.mono HB2.out.size))
  have HG3 := Lib.hid (HG2.out.next hb3)
  clear hb3
  go_wp2_with fail
  refine (int_v b w3).mono ?_
  rintro e w4 ⟨y0, y1, y2, y3, y4, F, rfl, hO, hF, hb4⟩
  obtain ⟨A7, c7, A8, c8, rfl, rfl, rfl, rfl, rfl⟩ := hO.doc.forms
  have HB4 := Lib.hid (HB3.out.trans (hb4.mono HB3.out.size))
  have HG4 := Lib.hid (HG3.out.next hb4)
  have HO4 := Lib.hid hO
  clear hO hF hb4
  go_wp2_with fail
  refine (print_int IB.out HO4.out.doc (Nat.le_refl _) HG4.out).mono ?_
  rintro e w5 ⟨rfl, hb5⟩
  have HB5 := Lib.hid (HB4.out.trans (hb5.mono HB4.out.size))
  have HG5 := Lib.hid (HG4.out.next hb5)
  clear hb5
  go_wp2_with fail
  refine (number_of IA.out HG5.out).mono ?_
  rintro e w6 ⟨rfl, hb6⟩
  have HB6 := Lib.hid (HB5.out.trans (hb6.mono HB5.out.size))
  have HG6 := Lib.hid (HG5.out.next hb6)
  clear hb6
  go_wp2_with fail
  refine (number_to hs HG6.out).mono ?_
  rintro e w7 ⟨⟨m, is, rfl, hN⟩, hb7⟩
  have HB7 := Lib.hid (HB6.out.trans (hb7.mono HB6.out.size))
  have HG7 := Lib.hid (HG6.out.next hb7)
  have HN := Lib.hid hN
  clear hb7 hN
  have e1 : ((intB a).toList == (intB b).toList) = (a == b) := by
    rw [Bool.eq_iff_iff]
    simp only [beq_iff_eq, ByteArray.toList_eq]
    exact ⟨fun h => (intB_inj IA.out IB.out).1 (bytes_inj' h), fun h => by rw [h]⟩
  have ea : ∀ n : Int, (n == n) = true := fun n => by simp
  have eb : ∀ n : Bool, (n == n) = true := fun n => by simp
  by_cases h100 : 100 < s.size
  · go_wp2_with fail
    go_ret
    exact ⟨rfl, HB7.out⟩
  · rcases HN.out with ⟨his, hm, hms⟩ | ⟨his, hm⟩
    · subst his
      have IM := Lib.hid hm; have HS := Lib.hid hms
      clear hm hms
      go_wp2_with fail
      refine (int_v m w7).mono ?_
      rintro e w8 ⟨y0, y1, y2, y3, y4, F, rfl, hO, hF, hb8⟩
      obtain ⟨A7, c7, A8, c8, rfl, rfl, rfl, rfl, rfl⟩ := hO.doc.forms
      have HB8 := Lib.hid (HB7.out.trans (hb8.mono HB7.out.size))
      have HG8 := Lib.hid (HG7.out.next hb8)
      have HO8 := Lib.hid hO
      have es : ((intB m).toList == s.toList) = true := by rw [HS.out]; simp
      clear hO hF hb8
      go_wp2_with fail
      refine (print_int IM.out HO8.out.doc (Nat.le_refl _) HG8.out).mono ?_
      rintro e w9 ⟨rfl, hb9⟩
      have HB9 := Lib.hid (HB8.out.trans (hb9.mono HB8.out.size))
      clear hb9
      go_wp2_with fail
      go_ret
      exact ⟨rfl, HB9.out⟩
    · subst his
      go_wp2_with fail
      go_ret
      exact ⟨rfl, HB7.out⟩
end Go.Proofs.YtmnaaohhageihaaDoor
