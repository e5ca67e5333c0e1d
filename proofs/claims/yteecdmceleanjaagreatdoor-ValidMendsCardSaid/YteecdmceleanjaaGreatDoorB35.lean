/-
  The document's own 'part' of types: dictionaries and lists.
-/
import Derived.Test.YteecdmceleanjaaGreatDoorB32
namespace Go.Proofs.YteecdmceleanjaaGreatDoor
open Go.RowKit

set_option maxHeartbeats 8000000 in
set_option maxRecDepth 100000 in
theorem rpart_many (m : Nat) {t : T} {A3 A4 A5 : Option Addr} {d3 d4 d5 : Nat} {w : World} {B : Nat}
    (IH : Hid (∀ (t : T) (v : Value) (w : World) (B : Nat), t.depth ≤ m → t.Fit → B ≤ w.heap.size → TypeV w B t v →
      Calls Tryz.prog 109 #[v] w fun e w' => e = .returned (.bool (allT t)) ∧ Below w.heap.size w w'))
    (hm : t.depth ≤ m + 1) (h : ¬ NoShape t) (hk : t.kind = 2 ∨ t.kind = 3) (hB : B ≤ w.heap.size) (hf : t.Fit) (hs : TypesV w B (.slice A5 t.of.length d5) t.of) :
    Calls Tryz.prog 109 #[.agg #[.int .i64 t.kind, .int .i64 t.lo, .int .i64 t.hi, .slice A3 t.names.length d3, .slice A4 t.fields.length d4, .slice A5 t.of.length d5]] w fun e w' => e = .returned (.bool (allT t)) ∧ Below w.heap.size w w' := by
  have hz : t.fields.length = 0 ∧ t.names.length = 0 := by
    unfold NoShape at h
    omega
  clear h
  obtain ⟨z1, z2⟩ := hz
  have ef := List.eq_nil_of_length_eq_zero z1
  have HS := Lib.hid (soundT2 hk)
  have HF := Lib.hid hf
  have HV := Lib.hid hs
  have hol := hf.parts.2.2.1
  have E0 : Hid (allT t = (soundT t && allL t.of)) := by show _ = _; rw [allT_eq, T.kids, ef]; rfl
  clear hs hf
  by_cases hu : t.of.length = 1 ∧ 0 ≤ t.lo ∧ t.lo ≤ t.hi
  rotate_left
  · have E : Hid (allT t = false) := by
      show allT t = false
      rw [E0.out, HS.out, ← Bool.not_eq_true]
      simp only [Bool.and_eq_true, decide_eq_true_eq]
      omega
    have HU := Lib.hid hu
    rw [z1, z2]
    clear hu z1 z2 ef E0 HS
    rcases hk with hk | hk
    all_goals
      rw [hk]
      clear hk
      go_enter Tryz.func109, Tryz.ntmps109
      go_wp2_with fail
      all_goals first
        | (go_ret; exact ⟨ret_bool E.out.symm, (Below.refl _ _).alloc (Nat.le_refl _) _⟩)
        | (exfalso; have := HU.out; omega)
  obtain ⟨ho, h1, h2⟩ := hu
  have h0 : 0 < t.of.length := by omega
  have E : Hid (allT t = allT t.of[0]) := by
    show allT t = _
    rw [E0.out, HS.out, decide_eq_true z1, decide_eq_true z2, decide_eq_true h1, decide_eq_true h2, decide_eq_true ho]
    have : ∀ (l : List T) (h : l.length = 1), allL l = allT (l[0]'(by omega)) := fun l h => by
      match l, h with
      | [x], _ => simp [allL]
    rw [this _ ho]; rfl
  have hdk : (t.of[0]).depth < t.depth := T.of_depth h0
  have hdm : (t.of[0]).depth ≤ m := by omega
  have HFK := Lib.hid (HF.out.parts.2.2.2.2.2.at_ h0)
  obtain ⟨b, off, ea, hbb, X3, b3, X4, b4, X5, b5, s0, s1, s2, s3, s4, s5, hi⟩ := HV.out.kid (Below.refl _ _) hB h0
  have HI := Lib.hid hi
  rw [z1, z2, ho, ea]
  have g1 : (0 : Int) ≤ t.lo := h1
  have g2 : t.lo ≤ t.hi := h2
  rw [Nat.zero_mul, Nat.add_zero] at s0 s1 s2 s3 s4 s5
  clear hi z1 z2 ef E0 HS ho h1 h2 hdk ea
  rcases hk with hk | hk
  all_goals
    rw [hk]
    clear hk
    go_enter Tryz.func109, Tryz.ntmps109
    go_wp2_with fail
    refine (IH.out t.of[0] _ _ w.heap.size hdm HFK.out (by simp) ⟨_, _, _, _, _, _, rfl, HI.out.keep hB fun p hp => World.cell?_alloc_lt w _ p (by omega)⟩).mono ?_
    rintro e w2 ⟨rfl, hb2⟩
    have HB2 : Hid (Below w.heap.size w w2) := ((Below.refl _ _).alloc (Nat.le_refl _) _).trans (hb2.mono (by simp))
    clear hb2
    go_wp2_with fail
    all_goals (go_ret; exact ⟨ret_bool E.out.symm, HB2.out⟩)
end Go.Proofs.YteecdmceleanjaaGreatDoor
