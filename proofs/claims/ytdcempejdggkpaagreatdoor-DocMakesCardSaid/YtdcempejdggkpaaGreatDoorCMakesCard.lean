/-
  DocMakes: for every keys, kids, number and string the law tells true: Rec, List, Int, Bytes and Bool make what the document's own answers are, of up to 30 keys and kids; no condition beyond the card's own (the library's five variables hold what their initialisers lay, tied to the program's text).
-/
import Derived.Test.YtdcempejdggkpaaGreatDoorCards
import Derived.Test.YtdcempejdggkpaaGreatDoorTie
import Derived.Test.YtdcempejdggkpaaGreatDoorCMakes
import Derived.Test.YtdcempejdggkpaaGreatDoorB40
import Derived.Test.YtdcempejdggkpaaGreatDoorB41
import Derived.ChangeMaps5
import Derived.Test.YtdcempejdggkpaaGreatDoorB42
import Derived.LaidMore
import Derived.Deep.DeepHandedRow
import Derived.Deep.DeepWitnessRowRef
namespace Go.Proofs.YtdcempejdggkpaaGreatDoor.docMakes
open Go.ChangeShapes Go.WideShapes Go.ChangeAt Go.RowKit
section
variable {H : Type} {enc : TypeId × Value → H} {W : World} {base : Nat} {sp : Nat → Bool} {held : Bool}
/-- From the row's reading of a slice of documents. -/
theorem open_docs' {a0 : Option Addr} {l0 c0 : Nat} {d : DataW H} {p : List MemPlace} (h : DataW.Trod enc Tryz.prog W base sp held 23 (.slice a0 l0 c0) d p) :
    ∃ D1 : List D, KidsV W W.heap.size D1 (.slice a0 l0 c0) := by
  obtain ⟨fuel, h⟩ := h
  have h4 : DataW.trod enc Tryz.prog W base sp held fuel 23 [.slice a0 l0 c0] = some (d, p) := h
  rcases DataW.trod_slice Tryz.underlying23 h4 with ⟨e4, _⟩ | ⟨a, len, cap, elems, rest, n', hn', e4, _, _, hl, _, hlen, hel, _, _⟩
  · simp only [List.cons.injEq, and_true] at e4
    rw [e4]
    exact ⟨[], none, 0, rfl, Nat.le_refl _, fun h => by simp at h⟩
  · simp only [List.cons.injEq, and_true] at e4
    rw [e4]
    rw [cDoc] at hel
    have hget : ∀ i, i < len → ∃ (d : D), ∃ v0 v1 v2 v3 v4 : Value, W.cell? ((a.add (i * 5)).add 0) = some v0 ∧ W.cell? ((a.add (i * 5)).add 1) = some v1 ∧ W.cell? ((a.add (i * 5)).add 2) = some v2 ∧ W.cell? ((a.add (i * 5)).add 3) = some v3 ∧ W.cell? ((a.add (i * 5)).add 4) = some v4 ∧ DocIn W W.heap.size d v0 v1 v2 v3 v4 := by
      intro i hi
      have h' := hel i hi
      rw [List.getElem?_eq_getElem (by omega)] at h'
      obtain ⟨cs', hc1, hc2⟩ := Option.bind_eq_some_iff.1 h'
      obtain ⟨d, w0, w1, w2, w3, w4, rfl, hd⟩ := open_docs n' n' (Nat.le_refl _) cs' _ hc2
      have hc := (mapM_cells hc1).2
      exact ⟨d, w0, w1, w2, w3, w4, hc 0 (by omega), hc 1 (by omega), hc 2 (by omega), hc 3 (by omega), hc 4 (by omega), hd⟩
    obtain ⟨l, hll, hlp⟩ := Go.Proofs.YtdcempejdggkpaaGreatDoor.pick_list len hget
    refine ⟨l, some a, cap, by rw [hll], by omega, fun h0 => ?_⟩
    obtain ⟨_, _, _, _, _, hz, _⟩ := hlp 0 h0
    obtain ⟨q1, q2⟩ := cell_spot hz
    rw [show (a.add (0 * 5)).add 0 = a from by simp [Addr.add]] at q1 q2
    refine ⟨a.block, a.off, by rw [← q1], q2, KidsIn.of_at fun i hi => ?_⟩
    obtain ⟨w0, w1, w2, w3, w4, c0, c1, c2, c3, c4, hd⟩ := hlp i hi
    rw [q1, Go.Proofs.YtdcempejdggkpaaGreatDoor.add_none, Go.Proofs.YtdcempejdggkpaaGreatDoor.add_none] at c0 c1 c2 c3 c4
    rw [Nat.zero_add]
    exact ⟨w0, w1, w2, w3, w4, c0, c1, c2, c3, c4, hd⟩
end
theorem own : ownKnob Tryz.prog.godebug = none := by kernel_rfl
theorem laidOut : laidOutB Tryz.prog = true := by kernel_rfl
theorem results : Tryz.f3.resultTypes = #[4] := by kernel_rfl
theorem params_ok : ∀ t ∈ Tryz.f3.params.toList, Tryz.prog.readableRec t = true ∧ t < Tryz.prog.types.size := by
  have h : (Tryz.f3.params.toList.all fun t => Tryz.prog.readableRec t && decide (t < Tryz.prog.types.size)) = true := by kernel_rfl
  intro t ht
  have := List.all_eq_true.1 h t ht
  simpa using this
theorem door_met (os : Os) : laidMetH Tryz.prog Rows.docMakesRow.laid ((World.doorLaid Tryz.prog 400 os).forCall (fun _ _ => 0) ⟨#[], #[Value.slice none 0 0, Value.slice none 0 0, Value.int .i64 0, Value.string ⟨#[]⟩], []⟩).memory :=
  laidMetH_of_parts3 (fuel := 8) (laidMet_of_run' 8 (by kernel_rfl) (by kernel_rfl)) (by kernel_rfl) (by kernel_rfl)
theorem reads (os : Os) {H : Type} (enc : TypeId × Value → H) : ∃ places, DataW.whole enc Tryz.prog ((World.doorLaid Tryz.prog 400 os).forCall (fun _ _ => 0) ⟨#[], #[Value.slice none 0 0, Value.slice none 0 0, Value.int .i64 0, Value.string ⟨#[]⟩], []⟩).memory Tryz.f3.params.toList Rows.docMakesSpec.vars false #[Value.slice none 0 0, Value.slice none 0 0, Value.int .i64 0, Value.string ⟨#[]⟩].toList 8 = some ([.nil, .nil, .lit (.int .i64 0), .lit (.string [])], [], places) :=
  ⟨[], by kernel_rfl⟩
set_option maxRecDepth 100000 in
theorem contract (H : Type) (enc : TypeId × Value → H) (W : World) (base : Nat) (args : Array Value) (ds gs : List (DataW H)) (before : List MemPlace)
    (hval : ∀ (j : Nat) t v, Tryz.f3.params[j]? = some t → args[j]? = some v → Value.okWide Tryz.prog W .any base t v)
    (hW : DataW.Whole enc Tryz.prog Tryz.f3.params.toList Rows.docMakesSpec.vars false W args.toList ds gs before) (hL : laidMetH Tryz.prog laidL W) :
    Calls Tryz.prog 3 args W fun e W' => ∃ v, e = .returned v ∧ Rows.docMakesSpec.post enc Tryz.prog Tryz.f3 false true false false W args v W' := by
  have hW' := hW
  obtain ⟨p, q, hA0, hV, rfl, hfz, hnd⟩ := hW
  have hA : DataW.TrodAll enc Tryz.prog W 0 (fun _ => true) true Tryz.f3.params.toList args.toList ds p := hA0
  rw [Tryz.params3] at hA hval
  obtain ⟨v0, vs0, d0, ds0, p0, q0, hargs, rfl, rfl, h0, r0⟩ := trodAll_cons hA
  obtain ⟨v1, vs1, d1, ds1, p1, q1, rfl, rfl, rfl, h1, r1⟩ := trodAll_cons r0
  obtain ⟨v2, vs2, d2, ds2, p2, q2, rfl, rfl, rfl, h2, r2⟩ := trodAll_cons r1
  obtain ⟨v3, vs3, d3, ds3, p3, q3, rfl, rfl, rfl, h3, r3⟩ := trodAll_cons r2
  obtain ⟨rfl, rfl, rfl⟩ := trodAll_nil r3
  obtain rfl : args = #[v0, v1, v2, v3] := by cases args; simp_all
  obtain ⟨xs, hsv⟩ : ∃ (xs : List ByteArray), Strs W W.heap.size v0 xs := by
    obtain ⟨a, len, cap, rfl⟩ := okWide_slice Tryz.underlying22 (hval 0 22 v0 rfl rfl)
    obtain ⟨fuel, h⟩ := h0
    have h' : DataW.trod enc Tryz.prog W 0 (fun _ => true) true fuel 22 [.slice a len cap] = some (d0, p0) := h
    obtain ⟨v, xs, e, hs, _⟩ := open_strs h'
    simp only [List.cons.injEq, and_true] at e
    rw [← e] at hs
    exact ⟨xs, hs⟩
  obtain ⟨D1, hkv⟩ : ∃ (D1 : List D), KidsV W W.heap.size D1 v1 := by
    obtain ⟨a, len, cap, rfl⟩ := okWide_slice Tryz.underlying23 (hval 1 23 v1 rfl rfl)
    exact open_docs' h1
  obtain ⟨n2, rfl, rfl, rfl, _⟩ := open_int Tryz.underlying3 (hval 2 3 v2 rfl rfl) h2
  obtain ⟨s3, rfl, rfl, rfl, _⟩ := Go.ChangeMaps.open_string Tryz.underlying9 (hval 3 9 v3 rfl rfl) h3
  clear hA0
  have walk : Calls Tryz.prog 3 #[v0, v1, .int .i64 n2, .string s3] W fun e w' => e = .returned (.bool true) ∧ Below W.heap.size W w' := by
    exact makes_law xs D1 v0 v1 n2 s3 W (glob_of_laid hL) hsv hkv
  exact walk.mono fun e W' ⟨he, hb⟩ => ⟨_, he, law_post hW' rfl results Tryz.underlying4 rfl laidOut params_ok hb⟩
set_option maxRecDepth 100000 in
theorem lifted (os : Os) (started : os.Started) (H : Type) (enc : TypeId × Value → H) (F : Stop.Interp) :
    ReturnsInHanded {} Tryz.checked os 3 .any ((OpenSpec.ofChange Rows.docMakesSpec).preRow enc Tryz.prog Tryz.f3 Rows.docMakesRow.domain false Rows.docMakesRow.laid) (((OpenSpec.ofChange Rows.docMakesSpec).at F).post enc Tryz.prog Tryz.f3 false true false false) := by
  obtain ⟨places, hx⟩ := reads os enc
  refine returnsInHanded_of_row (C := Tryz.checked) (s := OpenSpec.ofChange Rows.docMakesSpec) own started (by kernel_rfl) Tryz.func3
    (witness_row_atRef (enc := enc) (C := Tryz.checked) false (World.doorLaid Tryz.prog 400 os) #[Value.slice none 0 0, Value.slice none 0 0, Value.int .i64 0, Value.string ⟨#[]⟩] rfl (by kernel_rfl) (by kernel_rfl) (by kernel_rfl)
      (OpenSpec.preRow_of_cond 8 hx (by kernel_rfl) (fun k hk => by cases hk) (by kernel_rfl) (door_met os))) ?_
  intro W base args ds gs before hval hW _ _ _ hL _ _
  exact contract H enc W base args ds gs before hval hW hL
theorem said : Rows.DocMakesSaid :=
  OpenClaim.holds_of_cond 3 Tryz.f3 rfl rfl rfl rfl rfl rfl rfl ⟨rfl, rfl, rfl, rfl, rfl⟩ rfl rfl rfl rfl rfl (by kernel_rfl) Tryz.func3 (by kernel_rfl)
    (of_decide_eq_true (by kernel_rfl)) (by unfold Func.isWrapper; first | (rw [if_pos (by decide +kernel)]; kernel_rfl) | (rw [if_neg (by decide +kernel)]; exact ⟨rfl, rfl⟩))
    (fun os started H enc _ F => by rw [OpenClaim.pre_eq_preRow]; exact lifted os started H enc F)
theorem plain (f : FuncId) (fn : Func) (hf : Tryz.pinned.checked.prog.funcNamed "cabochon/cabochonlaw01.DocMakes" = some f) (hfn : Tryz.pinned.checked.prog.funcs[f]? = some fn) :
    true = Tryz.pinned.checked.prog.looks [] ∧ ∀ (j : Nat) t, fn.params[j]? = some t → Tryz.pinned.checked.prog.wantsStandIn t = false := by
  obtain rfl : f = 3 := Option.some.inj ((show Tryz.prog.funcNamed "cabochon/cabochonlaw01.DocMakes" = some 3 by kernel_rfl).symm.trans hf) |>.symm
  obtain rfl : fn = Tryz.f3 := (Option.some.inj (Tryz.func3.symm.trans hfn)).symm
  refine ⟨by kernel_rfl, fun j t ht => ?_⟩
  have h : (Tryz.f3.params.toList.all fun t => !Tryz.prog.wantsStandIn t) = true := by kernel_rfl
  have h1 := List.all_eq_true.1 h t (by simpa using Array.mem_of_getElem? ht)
  have h2 : Tryz.prog.wantsStandIn t = false := by simpa using h1
  exact h2
theorem card : Rows.DocMakesCardSaid :=
  Claim7.holds_tied_plain_at .later [] _ _ _ _ said (fun _ h => by cases h) (by kernel_rfl) (fun _ h => by cases h) docMakes_row_tie rfl ⟨rfl, rfl⟩ (by kernel_rfl) rfl plain (by kernel_rfl)
end Go.Proofs.YtdcempejdggkpaaGreatDoor.docMakes
