/-
  DocKeeps: for every two documents and every two paths the law tells true: what was put is got, what is apart is as it was, and what was dropped is not there; no condition beyond the card's own (the library's five variables hold what their initialisers lay, tied to the program's text).
-/
import Derived.Test.YtpohbabdoiennaaDoorCards
import Derived.Test.YtpohbabdoiennaaDoorTie
import Derived.Test.YtpohbabdoiennaaDoorKeeps
import Derived.Test.YtpohbabdoiennaaDoorLaid
import Derived.Test.YtpohbabdoiennaaDoorOpen
import Derived.SizedLaws
import Derived.Test.YtpohbabdoiennaaDoorPost
import Derived.LaidMore
import Derived.Deep.DeepHandedRow
import Derived.Deep.DeepWitnessRowRef
namespace Go.Proofs.YtpohbabdoiennaaDoor.docKeeps
open Go.ChangeShapes Go.WideShapes Go.ChangeAt Go.RowKit
set_option maxRecDepth 100000 in
theorem agg_of_doc {W : World} {b0 : Nat} {v : Value} (h : Value.okWide Tryd.prog W .any b0 25 v) : ∃ cs, v = .agg cs := by
  unfold Value.okWide at h
  rw [Tryd.underlying25] at h
  obtain ⟨cs, h, _⟩ := h
  exact ⟨cs, h⟩
section
variable {H : Type} {enc : TypeId × Value → H} {W : World} {base : Nat} {sp : Nat → Bool} {held : Bool}
theorem all_mem {P : Program} {e : TypeId} : ∀ (l : List (DataW H)) (d : DataW H) (n : Nat), d ∈ l → n ∈ d.weights P e → n ∈ DataW.weightsAll P e l
  | x :: l, d, n, hd, hn => by
    simp only [DataW.weightsAll, List.mem_append]
    rcases List.mem_cons.1 hd with rfl | h
    · exact .inl hn
    · exact .inr (all_mem l d n h hn)
/-- A list of strings as the row reads it: each is within the reach. -/
theorem open_short {v : Value} {d : DataW H} {p : List MemPlace} (h : DataW.Trod enc Tryd.prog W base sp held 22 v d p) (hv : ∃ a len cap, v = .slice a len cap) (hz : ∀ n ∈ d.weights Tryd.prog 22, n ≤ reachBytes) :
    ∃ (A : Option Addr) (xs : List ByteArray) (c : Nat), v = .slice A xs.length c ∧ Strs W W.heap.size (.slice A xs.length c) xs ∧ ∀ s ∈ xs, Short s := by
  obtain ⟨fuel, h⟩ := h
  obtain ⟨a0, l0, c0, rfl⟩ := hv
  have h' : DataW.trod enc Tryd.prog W base sp held fuel 22 [.slice a0 l0 c0] = some (d, p) := h
  rcases Go.Deep.open_slice1 Tryd.underlying22 cStr h' with ⟨e, _⟩ | ⟨a, len, cap, m, n, V, D, Pl, e, _, hl, hc, hm, ed, hx⟩
  · simp only [List.cons.injEq, and_true] at e
    exact ⟨none, [], 0, e, ⟨none, 0, rfl, by simp, fun h => by simp at h⟩, by simp⟩
  · simp only [List.cons.injEq, and_true] at e
    have hlm : len ≤ m := by rw [hm]; split <;> omega
    have hd : d = .slice ((List.range len).map D) ((List.range (m - len)).map fun j => D (len + j)) := congrArg Prod.fst ed
    obtain ⟨xs, hxl, hxp⟩ := pick_list (p := fun i (s : ByteArray) => V i = .string s ∧ Short s) len fun i hi => by
      obtain ⟨s, e, e2, _⟩ := DataW.trod_string Tryd.underlying9 (hx i (by omega)).2
      simp only [List.cons.injEq, and_true] at e
      have e3 : D i = .lit (.string s.data.toList) := congrArg Prod.fst e2
      have h1 : s.data.toList.length ∈ d.weights Tryd.prog 22 := by
        rw [hd]
        simp only [DataW.weights, Tryd.underlying22, List.mem_cons, List.mem_append]
        refine .inr (.inl (all_mem _ (D i) _ (List.mem_map.2 ⟨i, by simpa using hi, rfl⟩) ?_))
        rw [e3]
        simp [DataW.weights]
      have h2 := hz _ h1
      refine ⟨s, e, ?_⟩
      unfold Short
      have h3 : s.size = s.data.toList.length := rfl
      have h4 : reachBytes = 140737488351232 := rfl
      omega
    refine ⟨some a, xs, cap, by rw [e, hxl], ⟨some a, cap, rfl, by omega, fun h0 => ?_⟩, fun s hs => ?_⟩
    · obtain ⟨h1, h2⟩ := cell_spot (hx 0 (by omega)).1
      rw [show a.add 0 = a from by simp [Addr.add]] at h1 h2
      refine ⟨a.block, a.off, by rw [← h1], h2, fun i hi => ?_⟩
      have h3 := (hx i (by omega)).1
      rw [h1, add_none] at h3
      rw [h3, (hxp i hi).1]
    · obtain ⟨i, hi, rfl⟩ := List.mem_iff_getElem.1 hs
      exact (hxp i hi).2
end
theorem own : ownKnob Tryd.prog.godebug = none := by kernel_rfl
theorem laidOut : laidOutB Tryd.prog = true := by kernel_rfl
theorem results : Tryd.f3.resultTypes = #[4] := by kernel_rfl
theorem params_ok : ∀ t ∈ Tryd.f3.params.toList, Tryd.prog.readableRec t = true ∧ t < Tryd.prog.types.size := by
  have h : (Tryd.f3.params.toList.all fun t => Tryd.prog.readableRec t && decide (t < Tryd.prog.types.size)) = true := by kernel_rfl
  intro t ht
  have := List.all_eq_true.1 h t ht
  simpa using this
theorem door_met (os : Os) : laidMetH Tryd.prog Rows.docKeepsRow.laid ((World.doorLaid Tryd.prog 400 os).forCall (fun _ _ => 0) ⟨#[], #[Value.agg #[.int .i64 0, .int .i64 0, .string ⟨#[]⟩, .slice none 0 0, .slice none 0 0], Value.agg #[.int .i64 0, .int .i64 0, .string ⟨#[]⟩, .slice none 0 0, .slice none 0 0], Value.slice none 0 0, Value.slice none 0 0], []⟩).memory :=
  laidMetH_of_parts3 (fuel := 8) (laidMet_of_run' 8 (by kernel_rfl) (by kernel_rfl)) (by kernel_rfl) (by kernel_rfl)
theorem reads (os : Os) {H : Type} (enc : TypeId × Value → H) : ∃ places, DataW.whole enc Tryd.prog ((World.doorLaid Tryd.prog 400 os).forCall (fun _ _ => 0) ⟨#[], #[Value.agg #[.int .i64 0, .int .i64 0, .string ⟨#[]⟩, .slice none 0 0, .slice none 0 0], Value.agg #[.int .i64 0, .int .i64 0, .string ⟨#[]⟩, .slice none 0 0, .slice none 0 0], Value.slice none 0 0, Value.slice none 0 0], []⟩).memory Tryd.f3.params.toList Rows.docKeepsSpec.vars false #[Value.agg #[.int .i64 0, .int .i64 0, .string ⟨#[]⟩, .slice none 0 0, .slice none 0 0], Value.agg #[.int .i64 0, .int .i64 0, .string ⟨#[]⟩, .slice none 0 0, .slice none 0 0], Value.slice none 0 0, Value.slice none 0 0].toList 8 = some ([.agg [.lit (.int .i64 0), .lit (.int .i64 0), .lit (.string []), .nil, .nil], .agg [.lit (.int .i64 0), .lit (.int .i64 0), .lit (.string []), .nil, .nil], .nil, .nil], [], places) :=
  ⟨[], by kernel_rfl⟩
set_option maxRecDepth 100000 in
theorem contract (H : Type) (enc : TypeId × Value → H) (W : World) (base : Nat) (args : Array Value) (ds gs : List (DataW H)) (before : List MemPlace)
    (hval : ∀ (j : Nat) t v, Tryd.f3.params[j]? = some t → args[j]? = some v → Value.okWide Tryd.prog W .any base t v)
    (hW : DataW.Whole enc Tryd.prog Tryd.f3.params.toList Rows.docKeepsSpec.vars false W args.toList ds gs before) (hsz : (DataW.weightsEach Tryd.prog (Tryd.f3.params.toList ++ (OpenSpec.ofChange Rows.docKeepsSpec).bare.plain.varTypes Tryd.prog) (ds ++ gs)).all (· ≤ reachBytes) = true) (hL : laidMetH Tryd.prog laidL W) :
    Calls Tryd.prog 3 args W fun e W' => ∃ v, e = .returned v ∧ Rows.docKeepsSpec.post enc Tryd.prog Tryd.f3 false true false false W args v W' := by
  have hW' := hW
  obtain ⟨p, q, hA0, hV, rfl, hfz, hnd⟩ := hW
  have hA : DataW.TrodAll enc Tryd.prog W 0 (fun _ => true) true Tryd.f3.params.toList args.toList ds p := hA0
  rw [Tryd.params3] at hA hval hsz
  obtain ⟨v0, vs0, d0, ds0, p0, q0, hargs, rfl, rfl, h0, r0⟩ := trodAll_cons hA
  obtain ⟨v1, vs1, d1, ds1, p1, q1, rfl, rfl, rfl, h1, r1⟩ := trodAll_cons r0
  obtain ⟨v2, vs2, d2, ds2, p2, q2, rfl, rfl, rfl, h2, r2⟩ := trodAll_cons r1
  obtain ⟨v3, vs3, d3, ds3, p3, q3, rfl, rfl, rfl, h3, r3⟩ := trodAll_cons r2
  obtain ⟨rfl, rfl, rfl⟩ := trodAll_nil r3
  obtain rfl : args = #[v0, v1, v2, v3] := by cases args; simp_all
  obtain ⟨D0, x00, x01, x02, x03, x04, rfl, hd0⟩ := open_doc h0 (agg_of_doc (hval 0 25 v0 rfl rfl))
  obtain ⟨D1, x10, x11, x12, x13, x14, rfl, hd1⟩ := open_doc h1 (agg_of_doc (hval 1 25 v1 rfl rfl))
  obtain ⟨PA, ps, pc, rfl, hps, hss⟩ := open_short h2 (okWide_slice Tryd.underlying22 (hval 2 22 v2 rfl rfl)) (fun n hn => by simpa using List.all_eq_true.1 hsz n (DataW.weights_mem_each (j := 2) (t := 22) (by rfl) (by rfl) n hn))
  obtain ⟨QA, qs, qc, rfl, hqs, hst⟩ := open_short h3 (okWide_slice Tryd.underlying22 (hval 3 22 v3 rfl rfl)) (fun n hn => by simpa using List.all_eq_true.1 hsz n (DataW.weights_mem_each (j := 3) (t := 22) (by rfl) (by rfl) n hn))
  clear hA0
  have walk : Calls Tryd.prog 3 #[.agg #[x00, x01, x02, x03, x04], .agg #[x10, x11, x12, x13, x14], .slice PA ps.length pc, .slice QA qs.length qc] W fun e w' => e = .returned (.bool true) ∧ Below W.heap.size W w' := by
    obtain ⟨A3, d3, A4, d4, rfl, rfl, rfl, rfl, rfl⟩ := hd0.forms
    obtain ⟨B3, e3, B4, e4, rfl, rfl, rfl, rfl, rfl⟩ := hd1.forms
    cases hA : fewB D0
    · exact keeps_not D0 D1 ps qs PA QA pc qc _ _ _ _ _ _ _ _ W (glob_of_laid hL) hd0 hd1 false (fewB D1) (Lib.hid hA) (Lib.hid rfl) (.inl rfl)
    cases hB : fewB D1
    · exact keeps_not D0 D1 ps qs PA QA pc qc _ _ _ _ _ _ _ _ W (glob_of_laid hL) hd0 hd1 true false (Lib.hid hA) (Lib.hid hB) (.inr (.inl rfl))
    by_cases hl : 20 < ps.length ∨ 20 < qs.length
    · exact keeps_not D0 D1 ps qs PA QA pc qc _ _ _ _ _ _ _ _ W (glob_of_laid hL) hd0 hd1 true true (Lib.hid hA) (Lib.hid hB) (.inr (.inr hl))
    exact keeps_yes D0 D1 ps qs PA QA pc qc _ _ _ _ _ _ _ _ W (glob_of_laid hL) hd0 hd1 hps hqs (Lib.hid hA) (Lib.hid hB) (by omega) (by omega) hss hst _ _ _ _ _ _ _ _ _ _ rfl rfl rfl rfl rfl
  exact walk.mono fun e W' ⟨he, hb⟩ => ⟨_, he, law_post hW' rfl results Tryd.underlying4 rfl laidOut params_ok hb⟩
set_option maxRecDepth 100000 in
theorem lifted (os : Os) (started : os.Started) (H : Type) (enc : TypeId × Value → H) (F : Stop.Interp) :
    ReturnsInHanded {} Tryd.checked os 3 .any ((OpenSpec.ofChange Rows.docKeepsSpec).preRow enc Tryd.prog Tryd.f3 Rows.docKeepsRow.domain false Rows.docKeepsRow.laid) (((OpenSpec.ofChange Rows.docKeepsSpec).at F).post enc Tryd.prog Tryd.f3 false true false false) := by
  obtain ⟨places, hx⟩ := reads os enc
  refine returnsInHanded_of_row (C := Tryd.checked) (s := OpenSpec.ofChange Rows.docKeepsSpec) own started (by kernel_rfl) Tryd.func3
    (witness_row_atRef (enc := enc) (C := Tryd.checked) false (World.doorLaid Tryd.prog 400 os) #[Value.agg #[.int .i64 0, .int .i64 0, .string ⟨#[]⟩, .slice none 0 0, .slice none 0 0], Value.agg #[.int .i64 0, .int .i64 0, .string ⟨#[]⟩, .slice none 0 0, .slice none 0 0], Value.slice none 0 0, Value.slice none 0 0] rfl (by kernel_rfl) (by kernel_rfl) (by kernel_rfl)
      (OpenSpec.preRow_of_cond 8 hx (by kernel_rfl) (fun k hk => by cases hk) (by kernel_rfl) (door_met os))) ?_
  intro W base args ds gs before hval hW _ _ hsz hL _ _
  exact contract H enc W base args ds gs before hval hW hsz hL
theorem said : Rows.DocKeepsSaid :=
  OpenClaim.holds_of_cond 3 Tryd.f3 rfl rfl rfl rfl rfl rfl rfl ⟨rfl, rfl, rfl, rfl, rfl⟩ rfl rfl rfl rfl rfl (by kernel_rfl) Tryd.func3 (by kernel_rfl)
    (of_decide_eq_true (by kernel_rfl)) (by unfold Func.isWrapper; first | (rw [if_pos (by decide +kernel)]; kernel_rfl) | (rw [if_neg (by decide +kernel)]; exact ⟨rfl, rfl⟩))
    (fun os started H enc _ F => by rw [OpenClaim.pre_eq_preRow]; exact lifted os started H enc F)
theorem plain (f : FuncId) (fn : Func) (hf : Tryd.pinned.checked.prog.funcNamed "cabochon/cabochonlaw01.DocKeeps" = some f) (hfn : Tryd.pinned.checked.prog.funcs[f]? = some fn) :
    true = Tryd.pinned.checked.prog.looks [] ∧ ∀ (j : Nat) t, fn.params[j]? = some t → Tryd.pinned.checked.prog.wantsStandIn t = false := by
  obtain rfl : f = 3 := Option.some.inj ((show Tryd.prog.funcNamed "cabochon/cabochonlaw01.DocKeeps" = some 3 by kernel_rfl).symm.trans hf) |>.symm
  obtain rfl : fn = Tryd.f3 := (Option.some.inj (Tryd.func3.symm.trans hfn)).symm
  refine ⟨by kernel_rfl, fun j t ht => ?_⟩
  have h : (Tryd.f3.params.toList.all fun t => !Tryd.prog.wantsStandIn t) = true := by kernel_rfl
  have h1 := List.all_eq_true.1 h t (by simpa using Array.mem_of_getElem? ht)
  have h2 : Tryd.prog.wantsStandIn t = false := by simpa using h1
  exact h2
theorem card : Rows.DocKeepsCardSaid :=
  Claim7.holds_tied_plain_at .later [] _ _ _ _ said (fun _ h => by cases h) (by kernel_rfl) (fun _ h => by cases h) docKeeps_row_tie rfl ⟨rfl, rfl⟩ (by kernel_rfl) rfl plain (by kernel_rfl)
end Go.Proofs.YtpohbabdoiennaaDoor.docKeeps
