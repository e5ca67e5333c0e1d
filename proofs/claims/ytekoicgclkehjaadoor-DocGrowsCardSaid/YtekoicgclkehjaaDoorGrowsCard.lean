/-
  DocGrows: for every two documents and every key the law tells true: what was put in a record or a dictionary makes it as great as it should be, and it is as deep as its deepest kid and one more; no condition beyond the card's own (the library's five variables hold what their initialisers lay, tied to the program's text).
-/
import Derived.Test.YtekoicgclkehjaaDoorCards
import Derived.Test.YtekoicgclkehjaaDoorTie
import Derived.Test.YtekoicgclkehjaaDoorGrows
import Derived.Test.YtekoicgclkehjaaDoorLaid
import Derived.Test.YtekoicgclkehjaaDoorOpen
import Derived.ChangeMaps5
import Derived.Test.YtekoicgclkehjaaDoorPost
import Derived.LaidMore
import Derived.Deep.DeepHandedRow
import Derived.Deep.DeepWitnessRowRef
namespace Go.Proofs.YtekoicgclkehjaaDoor.docGrows
open Go.ChangeShapes Go.WideShapes Go.ChangeAt Go.RowKit
set_option maxRecDepth 100000 in
theorem agg_of_doc {W : World} {b0 : Nat} {v : Value} (h : Value.okWide Tryd.prog W .any b0 25 v) : ∃ cs, v = .agg cs := by
  unfold Value.okWide at h
  rw [Tryd.underlying25] at h
  obtain ⟨cs, h, _⟩ := h
  exact ⟨cs, h⟩
theorem own : ownKnob Tryd.prog.godebug = none := by kernel_rfl
theorem laidOut : laidOutB Tryd.prog = true := by kernel_rfl
theorem results : Tryd.f5.resultTypes = #[4] := by kernel_rfl
theorem params_ok : ∀ t ∈ Tryd.f5.params.toList, Tryd.prog.readableRec t = true ∧ t < Tryd.prog.types.size := by
  have h : (Tryd.f5.params.toList.all fun t => Tryd.prog.readableRec t && decide (t < Tryd.prog.types.size)) = true := by kernel_rfl
  intro t ht
  have := List.all_eq_true.1 h t ht
  simpa using this
theorem door_met (os : Os) : laidMetH Tryd.prog Rows.docGrowsRow.laid ((World.doorLaid Tryd.prog 400 os).forCall (fun _ _ => 0) ⟨#[], #[Value.agg #[.int .i64 0, .int .i64 0, .string ⟨#[]⟩, .slice none 0 0, .slice none 0 0], Value.agg #[.int .i64 0, .int .i64 0, .string ⟨#[]⟩, .slice none 0 0, .slice none 0 0], Value.string ⟨#[]⟩], []⟩).memory :=
  laidMetH_of_parts3 (fuel := 8) (laidMet_of_run' 8 (by kernel_rfl) (by kernel_rfl)) (by kernel_rfl) (by kernel_rfl)
theorem reads (os : Os) {H : Type} (enc : TypeId × Value → H) : ∃ places, DataW.whole enc Tryd.prog ((World.doorLaid Tryd.prog 400 os).forCall (fun _ _ => 0) ⟨#[], #[Value.agg #[.int .i64 0, .int .i64 0, .string ⟨#[]⟩, .slice none 0 0, .slice none 0 0], Value.agg #[.int .i64 0, .int .i64 0, .string ⟨#[]⟩, .slice none 0 0, .slice none 0 0], Value.string ⟨#[]⟩], []⟩).memory Tryd.f5.params.toList Rows.docGrowsSpec.vars false #[Value.agg #[.int .i64 0, .int .i64 0, .string ⟨#[]⟩, .slice none 0 0, .slice none 0 0], Value.agg #[.int .i64 0, .int .i64 0, .string ⟨#[]⟩, .slice none 0 0, .slice none 0 0], Value.string ⟨#[]⟩].toList 8 = some ([.agg [.lit (.int .i64 0), .lit (.int .i64 0), .lit (.string []), .nil, .nil], .agg [.lit (.int .i64 0), .lit (.int .i64 0), .lit (.string []), .nil, .nil], .lit (.string [])], [], places) :=
  ⟨[], by kernel_rfl⟩
set_option maxRecDepth 100000 in
theorem contract (H : Type) (enc : TypeId × Value → H) (W : World) (base : Nat) (args : Array Value) (ds gs : List (DataW H)) (before : List MemPlace)
    (hval : ∀ (j : Nat) t v, Tryd.f5.params[j]? = some t → args[j]? = some v → Value.okWide Tryd.prog W .any base t v)
    (hW : DataW.Whole enc Tryd.prog Tryd.f5.params.toList Rows.docGrowsSpec.vars false W args.toList ds gs before) (hL : laidMetH Tryd.prog laidL W) :
    Calls Tryd.prog 5 args W fun e W' => ∃ v, e = .returned v ∧ Rows.docGrowsSpec.post enc Tryd.prog Tryd.f5 false true false false W args v W' := by
  have hW' := hW
  obtain ⟨p, q, hA0, hV, rfl, hfz, hnd⟩ := hW
  have hA : DataW.TrodAll enc Tryd.prog W 0 (fun _ => true) true Tryd.f5.params.toList args.toList ds p := hA0
  rw [Tryd.params5] at hA hval
  obtain ⟨v0, vs0, d0, ds0, p0, q0, hargs, rfl, rfl, h0, r0⟩ := trodAll_cons hA
  obtain ⟨v1, vs1, d1, ds1, p1, q1, rfl, rfl, rfl, h1, r1⟩ := trodAll_cons r0
  obtain ⟨v2, vs2, d2, ds2, p2, q2, rfl, rfl, rfl, h2, r2⟩ := trodAll_cons r1
  obtain ⟨rfl, rfl, rfl⟩ := trodAll_nil r2
  obtain rfl : args = #[v0, v1, v2] := by cases args; simp_all
  obtain ⟨D0, x00, x01, x02, x03, x04, rfl, hd0⟩ := open_doc h0 (agg_of_doc (hval 0 25 v0 rfl rfl))
  obtain ⟨D1, x10, x11, x12, x13, x14, rfl, hd1⟩ := open_doc h1 (agg_of_doc (hval 1 25 v1 rfl rfl))
  obtain ⟨s2, rfl, rfl, rfl, hsz⟩ := Go.ChangeMaps.open_string Tryd.underlying9 (hval 2 9 v2 rfl rfl) h2
  clear hA0
  have walk : Calls Tryd.prog 5 #[.agg #[x00, x01, x02, x03, x04], .agg #[x10, x11, x12, x13, x14], .string s2] W fun e w' => e = .returned (.bool true) ∧ Below W.heap.size W w' := by
    obtain ⟨A3, d3, A4, d4, rfl, rfl, rfl, rfl, rfl⟩ := hd0.forms
    obtain ⟨B3, e3, B4, e4, rfl, rfl, rfl, rfl, rfl⟩ := hd1.forms
    cases hA : fewB D0
    · exact grows_not D0 D1 s2 _ _ _ _ _ _ _ _ W (glob_of_laid hL) hd0 hd1 false (fewB D1) (Lib.hid hA) (Lib.hid rfl) (.inl rfl)
    cases hB : fewB D1
    · exact grows_not D0 D1 s2 _ _ _ _ _ _ _ _ W (glob_of_laid hL) hd0 hd1 true false (Lib.hid hA) (Lib.hid hB) (.inr (.inl rfl))
    by_cases hk1 : D0.kind = 1
    · exact grows_yes D0 D1 s2 _ _ _ _ _ _ _ _ W (glob_of_laid hL) hd0 hd1 (Lib.hid hA) (Lib.hid hB) true (by simp [hk1]) (by simp [hk1]) ⟨by simpa [maxLen] using hsz, .inr (.inl hk1)⟩ _ _ _ _ rfl rfl
    by_cases hk2 : D0.kind = 2
    · exact grows_yes D0 D1 s2 _ _ _ _ _ _ _ _ W (glob_of_laid hL) hd0 hd1 (Lib.hid hA) (Lib.hid hB) false (by simp [hk2]) (by simp [hk2]) ⟨by simpa [maxLen] using hsz, .inr (.inr hk2)⟩ _ _ _ _ rfl rfl
    exact grows_not D0 D1 s2 _ _ _ _ _ _ _ _ W (glob_of_laid hL) hd0 hd1 true true (Lib.hid hA) (Lib.hid hB) (.inr (.inr ⟨hk1, hk2⟩))
  exact walk.mono fun e W' ⟨he, hb⟩ => ⟨_, he, law_post hW' rfl results Tryd.underlying4 rfl laidOut params_ok hb⟩
set_option maxRecDepth 100000 in
theorem lifted (os : Os) (started : os.Started) (H : Type) (enc : TypeId × Value → H) (F : Stop.Interp) :
    ReturnsInHanded {} Tryd.checked os 5 .any ((OpenSpec.ofChange Rows.docGrowsSpec).preRow enc Tryd.prog Tryd.f5 Rows.docGrowsRow.domain false Rows.docGrowsRow.laid) (((OpenSpec.ofChange Rows.docGrowsSpec).at F).post enc Tryd.prog Tryd.f5 false true false false) := by
  obtain ⟨places, hx⟩ := reads os enc
  refine returnsInHanded_of_row (C := Tryd.checked) (s := OpenSpec.ofChange Rows.docGrowsSpec) own started (by kernel_rfl) Tryd.func5
    (witness_row_atRef (enc := enc) (C := Tryd.checked) false (World.doorLaid Tryd.prog 400 os) #[Value.agg #[.int .i64 0, .int .i64 0, .string ⟨#[]⟩, .slice none 0 0, .slice none 0 0], Value.agg #[.int .i64 0, .int .i64 0, .string ⟨#[]⟩, .slice none 0 0, .slice none 0 0], Value.string ⟨#[]⟩] rfl (by kernel_rfl) (by kernel_rfl) (by kernel_rfl)
      (OpenSpec.preRow_of_cond 8 hx (by kernel_rfl) (fun k hk => by cases hk) (by kernel_rfl) (door_met os))) ?_
  intro W base args ds gs before hval hW _ _ _ hL _ _
  exact contract H enc W base args ds gs before hval hW hL
theorem said : Rows.DocGrowsSaid :=
  OpenClaim.holds_of_cond 5 Tryd.f5 rfl rfl rfl rfl rfl rfl rfl ⟨rfl, rfl, rfl, rfl, rfl⟩ rfl rfl rfl rfl rfl (by kernel_rfl) Tryd.func5 (by kernel_rfl)
    (of_decide_eq_true (by kernel_rfl)) (by unfold Func.isWrapper; first | (rw [if_pos (by decide +kernel)]; kernel_rfl) | (rw [if_neg (by decide +kernel)]; exact ⟨rfl, rfl⟩))
    (fun os started H enc _ F => by rw [OpenClaim.pre_eq_preRow]; exact lifted os started H enc F)
theorem plain (f : FuncId) (fn : Func) (hf : Tryd.pinned.checked.prog.funcNamed "cabochon/cabochonlaw01.DocGrows" = some f) (hfn : Tryd.pinned.checked.prog.funcs[f]? = some fn) :
    true = Tryd.pinned.checked.prog.looks [] ∧ ∀ (j : Nat) t, fn.params[j]? = some t → Tryd.pinned.checked.prog.wantsStandIn t = false := by
  obtain rfl : f = 5 := Option.some.inj ((show Tryd.prog.funcNamed "cabochon/cabochonlaw01.DocGrows" = some 5 by kernel_rfl).symm.trans hf) |>.symm
  obtain rfl : fn = Tryd.f5 := (Option.some.inj (Tryd.func5.symm.trans hfn)).symm
  refine ⟨by kernel_rfl, fun j t ht => ?_⟩
  have h : (Tryd.f5.params.toList.all fun t => !Tryd.prog.wantsStandIn t) = true := by kernel_rfl
  have h1 := List.all_eq_true.1 h t (by simpa using Array.mem_of_getElem? ht)
  have h2 : Tryd.prog.wantsStandIn t = false := by simpa using h1
  exact h2
theorem card : Rows.DocGrowsCardSaid :=
  Claim7.holds_tied_plain_at .later [] _ _ _ _ said (fun _ h => by cases h) (by kernel_rfl) (fun _ h => by cases h) docGrows_row_tie rfl ⟨rfl, rfl⟩ (by kernel_rfl) rfl plain (by kernel_rfl)
end Go.Proofs.YtekoicgclkehjaaDoor.docGrows
