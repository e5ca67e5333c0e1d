/-
  schema.record, schema.behind.
-/
import Derived.Test.YtnjmknofojjlmaaDoorTInsA
namespace Go.Proofs.YtnjmknofojjlmaaDoor
open Go.RowKit

def recordB (t : T) : Bool := decide (t.kind = 1) && rightT t
set_option maxHeartbeats 1000000 in
theorem record_any {t : T} {v : Value} {w : World} {B : Nat} (hs : t.size ≤ 10000) (hd : t.depth ≤ 900) (hf : t.Fit) (hB : B ≤ w.heap.size) (ht : TypeV w B t v) :
    Calls Tryd.prog 28 #[v] w fun e w' => e = .returned (.bool (recordB t)) ∧ Below w.heap.size w w' := by
  obtain ⟨v0, v1, v2, v3, v4, v5, rfl, hin⟩ := ht
  have HIN := Lib.hid hin
  obtain ⟨A3, d3, A4, d4, A5, d5, rfl, rfl, rfl, rfl, rfl, rfl⟩ := hin.forms
  have HF := Lib.hid hf
  clear hin hf
  by_cases hk : t.kind = 1
  · have E := Lib.hid (show recordB t = rightT t by unfold recordB; rw [hk]; simp)
    have hk2 : (t.kind == 1) = true := by simp [hk]
    clear hk
    go_enter Tryd.func28, Tryd.ntmps28
    go_wp2_with fail
    have hbl : Below w.heap.size w (w.alloc (.cells #[.int .i64 t.kind, .int .i64 t.lo, .int .i64 t.hi, .slice A3 t.names.length d3, .slice A4 t.fields.length d4, .slice A5 t.of.length d5] 26)) := (Below.refl _ _).alloc (Nat.le_refl _) _
    refine (tright_any (B := B) hs hd HF.out (by simp; omega) ⟨_, _, _, _, _, _, rfl, HIN.out.keep (Nat.le_refl _) fun p hp => hbl.cell (by omega)⟩).mono ?_
    rintro e w1 ⟨rfl, hb1⟩
    have HB1 : Hid (Below w.heap.size w w1) := hbl.trans (hb1.mono (by simp))
    clear hb1 hbl
    go_wp2_with fail
    go_ret
    exact ⟨ret_bool E.out.symm, HB1.out⟩
  · have E := Lib.hid (show recordB t = false by unfold recordB; simp [hk])
    have hk2 : (t.kind == 1) = false := by simp [hk]
    clear hk
    go_enter Tryd.func28, Tryd.ntmps28
    go_wp2_with fail
    go_ret
    exact ⟨ret_bool E.out.symm, (Below.refl _ _).alloc (Nat.le_refl _) _⟩
def afterB (s : ByteArray) (f : F) : Bool := !Op.bytesLess f.name.toList s.toList && !f.name.toList == s.toList
theorem afterB_iff (s : ByteArray) (f : F) : afterB s f = decide (scmp s f.name = -1) := by
  unfold afterB
  have hf := scmp_ordered.flip f.name s trivial trivial
  rcases scmp_ordered.cases f.name s trivial trivial with h | h | h
  · rw [t_scmp_lt h]; simp; omega
  · rw [t_scmp_eq h]; simp; omega
  · rw [t_scmp_nlt (by omega), t_scmp_ne (by omega)]; simp; omega
/-- How many fields stand ahead. -/
def putAt (l : List F) (s : ByteArray) : Nat := if fieldIdx (afterB s) l = -1 then l.length else (fieldIdx (afterB s) l).toNat
theorem putAt_le (l : List F) (s : ByteArray) : putAt l s ≤ l.length := by
  unfold putAt
  rcases fieldIdx_cases (afterB s) l with ⟨h, _⟩ | ⟨i, hi, h, _⟩
  · rw [if_pos h]; exact Nat.le_refl _
  · rw [if_neg (by omega), h]; omega
set_option maxHeartbeats 1000000 in
theorem asks_behind (s : ByteArray) (c B : Nat) (w0 : World) (hc : c < w0.heap.size) (hs : w0.cell? ⟨c, 0, none⟩ = some (.string s)) : Asks (afterB s) 59 c w0 B := by
  intro f v0 v1 v2 v3 v4 v5 w hb hin hn
  have e1 := (hb.cell (p := ⟨c, 0, none⟩) hc).trans hs
  have hz := hb.size
  obtain ⟨A3, d3, A4, d4, A5, d5, rfl, rfl, rfl, rfl, rfl, rfl⟩ := hin.forms
  clear hs hb hin
  have hc2 : c < w.heap.size := by omega
  have hc3 : ¬ c = w.heap.size := by omega
  go_enter Tryd.func59, Tryd.ntmps59
  go_wp2_with fail
  go_ret
  exact ⟨rfl, (Below.refl _ _).alloc (Nat.le_refl _) _⟩
set_option maxHeartbeats 1000000 in
theorem behind_any {l : List F} {v : Value} {s : ByteArray} {w : World} {B : Nat} (hf : T.FitsF l) (hn : l.length ≤ 10000) (hB : B ≤ w.heap.size) (hv : FieldsV w B v l) :
    Calls Tryd.prog 32 #[v, .string s] w fun e w' => e = .returned (.int .i64 (putAt l s : Nat)) ∧ Below w.heap.size w w' := by
  have HV := Lib.hid hv; have HF := Lib.hid hf
  obtain ⟨A, c, rfl, hc, _⟩ := hv
  have hmf : ∀ (fn : Fn) (first cap : Array Value) (w : World), (Instr.makeFunc fn first cap).run Tryd.prog w = .ok (.func fn first cap) w := fun _ _ _ _ => rfl
  clear hf
  have hbl : Below w.heap.size w (w.alloc (.cells #[.string s] 9)) := (Below.refl _ _).alloc (Nat.le_refl _) _
  have hc1 : (w.alloc (.cells #[.string s] 9)).cell? ⟨w.heap.size, 0, none⟩ = some (.string s) := by go_simp
  have HI := Lib.hid (indexF_any (p := afterB s) (B := B) (enters_of Tryd.func59 (by kernel_rfl) rfl) (asks_behind s w.heap.size B (w.alloc (.cells #[.string s] 9)) (by simp) hc1) (by simp; omega) (HV.out.keep (Nat.le_refl _) fun p hp => hbl.cell (by omega)) hn HF.out)
  have HBL := Lib.hid hbl
  clear hbl hc1
  rcases fieldIdx_cases (afterB s) l with ⟨h, _⟩ | ⟨i, hi, h, _⟩
  · have E := Lib.hid (show putAt l s = l.length by unfold putAt; rw [if_pos h])
    have HH := Lib.hid h
    clear h
    go_enter Tryd.func32, Tryd.ntmps32
    go_wp2_with fail
    refine HI.out.mono ?_
    rintro e w1 ⟨rfl, hb1⟩
    rw [HH.out]
    have HB1 : Hid (Below w.heap.size w w1) := HBL.out.trans (hb1.mono (by simp))
    clear hb1
    go_wp2_with fail
    go_ret
    exact ⟨ret_int (by rw [E.out]), HB1.out⟩
  · have E := Lib.hid (show putAt l s = i by unfold putAt; rw [if_neg (by omega), h]; rfl)
    have HH := Lib.hid h
    clear h
    have hi0 : (0 : Int) ≤ (i : Int) := by omega
    go_enter Tryd.func32, Tryd.ntmps32
    go_wp2_with fail
    refine HI.out.mono ?_
    rintro e w1 ⟨rfl, hb1⟩
    rw [HH.out]
    have HB1 : Hid (Below w.heap.size w w1) := HBL.out.trans (hb1.mono (by simp))
    clear hb1
    go_wp2_with fail
    go_ret
    exact ⟨ret_int (by rw [E.out]), HB1.out⟩
end Go.Proofs.YtnjmknofojjlmaaDoor
